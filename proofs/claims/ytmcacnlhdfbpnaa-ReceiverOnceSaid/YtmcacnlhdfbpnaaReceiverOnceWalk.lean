/- The walk of ReceiverOnce. -/
import Derived.Test.YtmcacnlhdfbpnaaRcvF
set_option linter.unusedVariables false
set_option linter.unusedSimpArgs false
namespace Go.Proofs.Ytmcacnlhdfbpnaa
open Go.RowKit Dice Wi
namespace Rcv
open Spn
/-- What a step in a region may change: the dice. -/
def RD (wa wb : World) (d : Nat) : Prop := wa.grownBy wb (some d) ∧ wb.cell? ⟨d, 0, none⟩ = wa.cell? ⟨d, 0, none⟩
theorem rd_refl (w : World) (d : Nat) : RD w w d := ⟨grown_of_below (Below.refl _ _), rfl⟩
theorem dcell {W w : World} {d : Nat} {a : Option Addr} {len cap : Nat} {zs : List Int} (h : Di W w d a len cap zs) : w.cell? ⟨d, 0, none⟩ = some (.slice a len cap) := by
  obtain ⟨p, _, hb⟩ := h.blk
  exact (Di.cells hb).1
theorem dc_ne {w : World} {d : Nat} {a : Option Addr} {len cap : Nat} (h : w.cell? ⟨d, 0, none⟩ = some (.slice a len cap)) : ∀ x : Int, w.cell? ⟨d, 0, none⟩ ≠ some (.int .i64 x) := fun x e => by rw [h] at e; cases e
theorem rd_left {W w w' : World} {d : Nat} {a : Option Addr} {len cap : Nat} {zs : List Int} (h : Di W w d a len cap zs) (hl : Dice.Left W w w' d a len cap zs) : RD w w' d := ⟨hl.far, (dcell hl.di).trans (dcell h).symm⟩
theorem rd_below {W w w' : World} {d : Nat} {a : Option Addr} {len cap : Nat} {zs : List Int} (h : Di W w d a len cap zs) (hb : Below w.heap.size w w') : RD w w' d := ⟨grown_of_below hb, World.cell?_of_block (a := ⟨d, 0, none⟩) (hb.block d h.lt)⟩
theorem on_fresh {W w0 : World} {d : Nat} {a : Option Addr} {len cap : Nat} {zs : List Int} {b4 bm : Nat} {x1 : Option Addr} {n1 c1 : Nat} {x2 : Option Addr} {n2 c2 : Nat} {f g s : Int → Bool} {m : Nat} {wr : World} (o : ON W w0 d a len cap zs b4 bm x1 n1 c1 x2 n2 c2 f g s m wr)
    {p : Nat} {e1 e2 : Option Addr} {k1 j1 k2 j2 : Nat} {t : TypeId} (hp : wr.heap[p]? = some (.cells #[.slice e1 k1 j1, .slice e2 k2 j2] t (0, 0))) (p0 : w0.heap.size ≤ p) (p4 : p ≠ b4) (y1 : Option Addr) (m1 d1 : Nat) (y2 : Option Addr) (m2 d2 : Nat) :
    ON W w0 d a len cap zs b4 bm x1 n1 c1 x2 n2 c2 f g s m (wr.setRow p #[.slice y1 m1 d1, .slice y2 m2 d2]) :=
  ⟨Dice.Left.past o.h o.L (Mid.below_row (Below.refl _ _) p _ p0), (setRow_other _ _ _ _ (Ne.symm p4)).trans o.P, o.R.set hp _ _ _ _ _ _, o.M.kept (grown_row wr p _) (by have := map_ne o.M hp; simpa using this), o.h, o.h4, o.hm⟩
end Rcv
namespace Laws
open Rcv Spn
set_option maxHeartbeats 16000000 in
set_option maxRecDepth 100000 in
theorem receiverOnce_walk (a0 : Option Addr) (len0 cap0 : Nat) (z0 : List Int) (w : World) (w0 : Buf.IsRow .i64 w a0 len0 cap0 z0) :
    Calls Try.prog 3 #[.slice a0 len0 cap0] w fun e w' => e = .returned (.bool true) ∧ Below w.heap.size w w' := by
  have Sn := Lib.hid Rcv.sane_any
  by_cases hs : len0 ≤ 500
  · have hd : decide ((len0 : Int) ≤ 500) = true := by simp; omega
    go_enter Try.func3, Try.ntmps3
    go_upto_region 4 with (first | (go_at_call 9; refine (light_any _ _ _ _).mono ?_; rintro e w1 ⟨rfl, hw⟩; replace hw := hw.symm; subst hw; rw [hd]) | (go_at_call 11; refine (roll_any a0 len0 cap0 z0 _ w0 hs).mono ?_; rintro e w2 ⟨rfl, hdi⟩))
    go_wp2_with fail
    refine (Rcv.new_any _).mono ?_
    rintro e w3 ⟨rfl, hb3⟩
    have MM : ∀ w : World, (Instr.makeMap 31 none).run Try.prog w = .ok (.map (some w.heap.size)) (w.alloc (.map #[] 0)) := run_makeMap _
    have e1 : ((w3.alloc (.cells #[.slice none 0 0, .slice none 0 0] 29)).setRow w3.heap.size #[.slice none 0 0, .slice none 0 0]).heap.size = w3.heap.size + 1 := by simp
    have ON0 : ON w w2 w.heap.size a0 len0 cap0 z0 w3.heap.size (w3.heap.size + 1) none 0 0 none 0 0 (fun _ => false) (fun _ => false) (fun _ => false) 0 (((w3.alloc (.cells #[.slice none 0 0, .slice none 0 0] 29)).setRow w3.heap.size #[.slice none 0 0, .slice none 0 0]).alloc (.map #[] 0)) := by
      have l1 := ((Left.refl hdi).below hb3).below (new_block (.cells #[.slice none 0 0, .slice none 0 0] 29))
      have l2 := Dice.Left.past hdi l1 (Mid.below_row (Below.refl _ _) w3.heap.size #[.slice none 0 0, .slice none 0 0] hb3.size)
      refine ⟨l2.below (new_block _), hop (new_block _) (setRow_heap _ _ _ _ _ _ (heap_alloc_new w3 _)), rc_new _, ?_, hdi, hb3.size, Nat.le_succ_of_le hb3.size⟩
      have h := Mb.MapB.made ((w3.alloc (.cells #[.slice none 0 0, .slice none 0 0] 29)).setRow w3.heap.size #[.slice none 0 0, .slice none 0 0])
      rw [e1] at h; exact h
    have hdl := hdi.lt
    replace ON0 := Lib.hid ON0
    go_upto_region 7 with (first | ((with_reducible refine Mid.str 29 (.tmp 4) (.tmp 20) w3.heap.size 29 #[.slice none 0 0, .slice none 0 0] #[.slice none 0 0, .slice none 0 0] (heap_alloc_new w3 _) ?_ ?_ ?_ ?_ ?_ ?_ ?_ ?_); (· rfl); (· rfl); (· first | rfl | simp [Act.eval]); (· first | rfl | simp [Act.eval]); (· kernel_rfl); (· rfl); (· simp [Value.oneCell'])) | fail)
    clear MM e1
    obtain ⟨w4, hw4⟩ : ∃ w4, w4 = ((w3.alloc (.cells #[.slice none 0 0, .slice none 0 0] 29)).setRow w3.heap.size #[.slice none 0 0, .slice none 0 0]).alloc (.map #[] 0) := ⟨_, rfl⟩
    obtain ⟨b4, hb4⟩ : ∃ b4, b4 = w3.heap.size := ⟨_, rfl⟩
    obtain ⟨bm, hbm⟩ : ∃ bm, bm = b4 + 1 := ⟨_, rfl⟩
    rw [← hw4, ← hb4, ← hbm] at ON0
    rw [← hw4]
    simp only [World.size_alloc, size_setRow, ← hb4, ← hbm]
    replace hw4 := Lib.hid hw4
    replace hb4 := Lib.hid hb4
    replace hbm := Lib.hid hbm
    clear hb3 hdi
    go_wp2_with fail
    go_loopw [6] (fun i wr => ∃ (j m : Nat) (x1 : Option Addr) (n1 c1 : Nat) (x2 : Option Addr) (n2 c2 : Nat) (f g : Int → Bool), j ≤ 20 ∧ i = .int .i64 j ∧ m ≤ j ∧ Hid (ON w w2 w.heap.size a0 len0 cap0 z0 b4 bm x1 n1 c1 x2 n2 c2 f g f m wr)) (fun i _ => (20 - intOf i).toNat)
    case atStart => exact ⟨0, 0, _, _, _, _, _, _, _, _, by omega, rfl, by omega, ON0⟩
    case round =>
      clear ON0
      obtain ⟨j, m, x1, n1, c1, x2, n2, c2, f, g, hj, rfl, hm, O⟩ := hrel
      by_cases hj20 : j < 20
      · have hj20' : (j : Int) < 20 := by omega
        go_wp2_with fail
        refine (next_any 5 O.out.L.di (by omega) (by omega)).mono ?_
        rintro e wA ⟨⟨v5, rfl, v0, v9⟩, hl⟩
        replace O := Lib.hid (O.out.left hl)
        clear hl
        by_cases hv : v5 = 0
        · subst hv
          go_upto_region 10 with fail
          have hw0 : ON w w2 w.heap.size a0 len0 cap0 z0 b4 bm x1 n1 c1 x2 n2 c2 f g f m wA.drew := O.out.below (Below.refl _ _).drew
          refine wp_region_noPanic ?_
          refine wp_region_any (by kernel_rfl) ?_
          refine Inv.wpAny_inv2 (fun k => k == 8 || k == 9) 6 99 [30, 31, 32, 33, 29, 34, 35, 7] (fun w' => ON w w2 w.heap.size a0 len0 cap0 z0 b4 bm x1 n1 c1 x2 n2 c2 f g f m w') (fun _ wa wb => RD wa wb w.heap.size) (fun k => ([fun v_ w_ => v_ = .agg #[.slice x1 n1 c1, .slice x2 n2 c2], fun v_ w_ => v_ = .pointer (some ⟨w.heap.size, 0, none⟩), fun v_ w_ => ∃ q : Int, v_ = .int .i64 q ∧ 0 ≤ q ∧ q < 14, fun v_ w_ => ∃ a n c a' n' c', v_ = .tuple #[.agg #[.slice a n c, .slice a' n' c'], .int .i64 0] ∧ (∃ g', Rc w_ (.slice a n c) (.slice a' n' c') f g') ∧ w_.cell? ⟨w.heap.size, 0, none⟩ = some (.slice a0 len0 cap0), fun v_ w_ => ∃ a n c a' n' c', v_ = .tuple #[.agg #[.slice a n c, .slice a' n' c'], .int .i64 0] ∧ (∃ g', Rc w_ (.slice a n c) (.slice a' n' c') f g') ∧ w_.cell? ⟨w.heap.size, 0, none⟩ = some (.slice a0 len0 cap0), fun v_ w_ => ∃ a n c a' n' c', v_ = .agg #[.slice a n c, .slice a' n' c'] ∧ (∃ g', Rc w_ (.slice a n c) (.slice a' n' c') f g') ∧ w_.cell? ⟨w.heap.size, 0, none⟩ = some (.slice a0 len0 cap0), fun v_ w_ => v_ = .int .i64 0, fun v_ w_ => ∃ p, v_ = .pointer (some ⟨p, 0, none⟩) ∧ w_.heap[p]? = some (.cells #[.slice none 0 0, .slice none 0 0] 29 (0, 0)) ∧ w2.heap.size ≤ p ∧ p ≠ b4, fun v_ w_ => True, fun v_ w_ => True] : List (Value → World → Prop)).getD k (fun _ _ => True)) _ (fun σ => by simp only [Inv.putAll, List.foldl_cons, List.foldl_nil, Act.put, List.setIfInBounds_toArray, List.set_cons_zero, List.set_cons_succ]; rfl) (by kernel_rfl) (by kernel_rfl) (by decide) ?_ hw0 ?_ ?_ (fun b1 b2 => cond b1 2 3) (fun b1 b2 => #[true, true, true, true, true, true, b1, true, false, false]) (by intro b1 b2; cases b1 <;> cases b2 <;> kernel_rfl) (by intro b1 b2; cases b1 <;> cases b2 <;> kernel_rfl) (by exact ⟨rfl, rfl⟩) ?_
          · intro j k v w1 w2 hjk hv hr
            rcases k with _ | k
            · exact hv
            rcases k with _ | k
            · exact hv
            rcases k with _ | k
            · exact hv
            rcases k with _ | k
            · exact by obtain ⟨a, n, c, a', n', c', e, ⟨gz, h⟩, dc⟩ := hv; exact ⟨a, n, c, a', n', c', e, ⟨gz, h.far hr.1 (dc_ne dc)⟩, hr.2.trans dc⟩
            rcases k with _ | k
            · exact by obtain ⟨a, n, c, a', n', c', e, ⟨gz, h⟩, dc⟩ := hv; exact ⟨a, n, c, a', n', c', e, ⟨gz, h.far hr.1 (dc_ne dc)⟩, hr.2.trans dc⟩
            rcases k with _ | k
            · exact by obtain ⟨a, n, c, a', n', c', e, ⟨gz, h⟩, dc⟩ := hv; exact ⟨a, n, c, a', n', c', e, ⟨gz, h.far hr.1 (dc_ne dc)⟩, hr.2.trans dc⟩
            rcases k with _ | k
            · exact hv
            rcases k with _ | k
            · exact by obtain ⟨p, e, h, h0, h4⟩ := hv; exact ⟨p, e, (hr.1.block p (Array.getElem?_eq_some_iff.1 h).1 (by have := hdl; simp; omega)).trans h, h0, h4⟩
            rcases k with _ | k
            · exact hv
            rcases k with _ | k
            · exact hv
            · exact hv
          · intro k t hl hd
            rcases k with _ | k
            · exact absurd hl (by decide +kernel)
            rcases k with _ | k
            · exact absurd hl (by decide +kernel)
            rcases k with _ | k
            · exact absurd hl (by decide +kernel)
            rcases k with _ | k
            · exact absurd hl (by decide +kernel)
            rcases k with _ | k
            · exact absurd hl (by decide +kernel)
            rcases k with _ | k
            · exact absurd hl (by decide +kernel)
            rcases k with _ | k
            · exact absurd hl (by decide +kernel)
            rcases k with _ | k
            · exact absurd hl (by decide +kernel)
            rcases k with _ | k
            · exact absurd hl (by decide +kernel)
            rcases k with _ | k
            · exact absurd hl (by decide +kernel)
            · simp at hd
          · show Inv.Steps _ _ _ _ _ _ _ _ [0, 1, 2, 3, 4, 5, 6, 7]
            refine Inv.Steps.go (by decide) (by rfl) (fun σ wx hw hd K hK => ?_) ?_
            · simp only [List.getElem_toArray, List.getElem_cons_zero, List.getElem_cons_succ, Act.put, List.setIfInBounds_toArray, List.set_cons_zero, List.set_cons_succ] at hK ⊢
              refine wp_load_row 29 (.tmp 4) rfl b4 rfl 29 #[.slice x1 n1 c1, .slice x2 n2 c2] (0, 0) _ hw.P rfl rfl rfl ?_
              simp only [Act.put, List.setIfInBounds_toArray, List.set_cons_zero, List.set_cons_succ]
              exact hK.out _ _ hw (rd_refl _ _) (rfl)
            refine Inv.Steps.go (by decide) (by rfl) (fun σ wx hw hd K hK => ?_) ?_
            · simp only [List.getElem_toArray, List.getElem_cons_zero, List.getElem_cons_succ, Act.put, List.setIfInBounds_toArray, List.set_cons_zero, List.set_cons_succ] at hK ⊢
              go_simp
              exact hK.out _ _ hw (rd_refl _ _) (rfl)
            refine Inv.Steps.go (by decide) (by rfl) (fun σ wx hw hd K hK => ?_) ?_
            · obtain e31 : (σ 31) = .pointer (some ⟨w.heap.size, 0, none⟩) := hd 1 (some 31) (by kernel_rfl) (by rfl)
              simp only [List.getElem_toArray, List.getElem_cons_zero, List.getElem_cons_succ, Act.put, List.setIfInBounds_toArray, List.set_cons_zero, List.set_cons_succ, e31] at hK ⊢
              go_simp
              go_at_call 13
              refine (next_any 14 hw.L.di (by omega) (by omega)).mono ?_
              rintro e w1 ⟨⟨q, rfl, q0, q9⟩, hl⟩
              dsimp only
              exact hK.out _ _ (hw.left hl) (rd_left hw.L.di hl) (⟨q, rfl, q0, q9⟩)
            refine Inv.Steps.go (by decide) (by rfl) (fun σ wx hw hd K hK => ?_) ?_
            · obtain e30 : (σ 30) = .agg #[.slice x1 n1 c1, .slice x2 n2 c2] := hd 0 (some 30) (by kernel_rfl) (by rfl)
              obtain ⟨q, e32, q0, q9⟩ : ∃ q : Int, (σ 32) = .int .i64 q ∧ 0 ≤ q ∧ q < 14 := hd 2 (some 32) (by kernel_rfl) (by rfl)
              simp only [List.getElem_toArray, List.getElem_cons_zero, List.getElem_cons_succ, Act.put, List.setIfInBounds_toArray, List.set_cons_zero, List.set_cons_succ, e30, e32] at hK ⊢
              go_simp
              go_at_call 14
              refine (lose_any hw.R q (by omega) (by omega)).mono ?_
              rintro e w1 ⟨⟨vg, vl, rfl, R3⟩, hb⟩
              dsimp only
              obtain ⟨xa, xn, xc, ya, yn, yc, rfl, rfl⟩ := Rc.form R3
              exact hK.out _ _ (hw.below hb) (rd_below hw.L.di hb) (⟨_, _, _, _, _, _, rfl, ⟨_, R3⟩, dcell (hw.below hb).L.di⟩)
            refine Inv.Steps.go (by decide) (by rfl) (fun σ wx hw hd K hK => ?_) ?_
            · obtain ⟨y1, m1, d1, y2, m2, d2, e33, ⟨gz, LX⟩, DC⟩ : ∃ a n c a' n' c', (σ 33) = .tuple #[.agg #[.slice a n c, .slice a' n' c'], .int .i64 0] ∧ (∃ g', Rc wx (.slice a n c) (.slice a' n' c') f g') ∧ wx.cell? ⟨w.heap.size, 0, none⟩ = some (.slice a0 len0 cap0) := hd 3 (some 33) (by kernel_rfl) (by rfl)
              simp only [List.getElem_toArray, List.getElem_cons_zero, List.getElem_cons_succ, Act.put, List.setIfInBounds_toArray, List.set_cons_zero, List.set_cons_succ, e33] at hK ⊢
              go_simp
              exact hK.out _ _ hw (rd_refl _ _) (⟨_, _, _, _, _, _, rfl, ⟨gz, LX⟩, DC⟩)
            refine Inv.Steps.go (by decide) (by rfl) (fun σ wx hw hd K hK => ?_) ?_
            · obtain ⟨y1, m1, d1, y2, m2, d2, e29, ⟨gz, LX⟩, DC⟩ : ∃ a n c a' n' c', (σ 29) = .tuple #[.agg #[.slice a n c, .slice a' n' c'], .int .i64 0] ∧ (∃ g', Rc wx (.slice a n c) (.slice a' n' c') f g') ∧ wx.cell? ⟨w.heap.size, 0, none⟩ = some (.slice a0 len0 cap0) := hd 4 (some 29) (by kernel_rfl) (by rfl)
              simp only [List.getElem_toArray, List.getElem_cons_zero, List.getElem_cons_succ, Act.put, List.setIfInBounds_toArray, List.set_cons_zero, List.set_cons_succ, e29] at hK ⊢
              go_simp
              exact hK.out _ _ hw (rd_refl _ _) (⟨_, _, _, _, _, _, rfl, ⟨gz, LX⟩, DC⟩)
            refine Inv.Steps.go (by decide) (by rfl) (fun σ wx hw hd K hK => ?_) ?_
            · obtain ⟨y1, m1, d1, y2, m2, d2, e29, ⟨gz, LX⟩, DC⟩ : ∃ a n c a' n' c', (σ 29) = .tuple #[.agg #[.slice a n c, .slice a' n' c'], .int .i64 0] ∧ (∃ g', Rc wx (.slice a n c) (.slice a' n' c') f g') ∧ wx.cell? ⟨w.heap.size, 0, none⟩ = some (.slice a0 len0 cap0) := hd 4 (some 29) (by kernel_rfl) (by rfl)
              simp only [List.getElem_toArray, List.getElem_cons_zero, List.getElem_cons_succ, Act.put, List.setIfInBounds_toArray, List.set_cons_zero, List.set_cons_succ, e29] at hK ⊢
              go_simp
              exact hK.out _ _ hw (rd_refl _ _) (rfl)
            refine Inv.Steps.go (by decide) (by rfl) (fun σ wx hw hd K hK => ?_) ?_
            · simp only [List.getElem_toArray, List.getElem_cons_zero, List.getElem_cons_succ, Act.put, List.setIfInBounds_toArray, List.set_cons_zero, List.set_cons_succ] at hK ⊢
              have z4 := (Array.getElem?_eq_some_iff.1 hw.P).1
              have z2 := hw.L.far.size
              go_simp
              exact hK.out _ _ (hw.below (new_block _)) (rd_below hw.L.di (new_block _)) (⟨_, rfl, heap_alloc_new _ _, z2, by omega⟩)
            exact Inv.Steps.nil
          · intro b1 b2 σ wx hw hd
            cases b1
            · obtain ⟨y1, m1, d1, y2, m2, d2, e34, ⟨gz, LX⟩, DC⟩ : ∃ a n c a' n' c', (σ 34) = .agg #[.slice a n c, .slice a' n' c'] ∧ (∃ g', Rc wx (.slice a n c) (.slice a' n' c') f g') ∧ wx.cell? ⟨w.heap.size, 0, none⟩ = some (.slice a0 len0 cap0) := hd 5 (some 34) (by kernel_rfl) (by decide) (fun h => absurd h (by decide)) (by rfl)
              obtain ⟨p, e7, P7, p0, p4⟩ : ∃ p, (σ 7) = .pointer (some ⟨p, 0, none⟩) ∧ wx.heap[p]? = some (.cells #[.slice none 0 0, .slice none 0 0] 29 (0, 0)) ∧ w2.heap.size ≤ p ∧ p ≠ b4 := hd 7 (some 7) (by kernel_rfl) (by decide) (fun h => absurd h (by decide)) (by rfl)
              have H9 : ∃ a n c a' n' c', (σ 29) = .tuple #[.agg #[.slice a n c, .slice a' n' c'], .int .i64 0] ∧ (∃ g', Rc wx (.slice a n c) (.slice a' n' c') f g') ∧ wx.cell? ⟨w.heap.size, 0, none⟩ = some (.slice a0 len0 cap0) := hd 4 (some 29) (by kernel_rfl) (by decide) (fun h => absurd h (by decide)) (by rfl)
              obtain ⟨y1b, m1b, d1b, y2b, m2b, d2b, e29, _, _⟩ := H9
              simp only [e34, e7, e29]
              refine Inv.take (i := 6) (v := .int .i64 0) (by decide) rfl (by kernel_rfl) (by kernel_rfl) (by kernel_rfl) (fun _ _ _ h => h) (by rfl) (fun w' => ?_) ?_
              · simp only [List.getElem_toArray, List.getElem_cons_zero, List.getElem_cons_succ]
                go_simp
              try simp only [Act.put, List.setIfInBounds_toArray, List.set_cons_zero, List.set_cons_succ]
              obtain ⟨k0, k1_⟩ := Spn.c2 P7
              have f0 := frozen_of_row wx p 0 _ _ P7
              have f1 := frozen_of_row wx p 1 _ _ P7
              refine Inv.one (i := 8) (by decide) (by kernel_rfl) (by rfl) (fun K hK => ?_)
              simp only [List.getElem_toArray, List.getElem_cons_zero, List.getElem_cons_succ, Act.put, List.setIfInBounds_toArray, List.set_cons_zero, List.set_cons_succ] at hK ⊢
              go_simp
              refine hK.out _ _ ?_
              clear hK K
              refine Inv.take (i := 9) (v := .int .i64 0) (by decide) rfl (by kernel_rfl) (by kernel_rfl) (by kernel_rfl) (fun _ _ _ h => h) (by rfl) (fun w' => ?_) ?_
              · simp only [List.getElem_toArray, List.getElem_cons_zero, List.getElem_cons_succ]
                go_simp
              try simp only [Act.put, List.setIfInBounds_toArray, List.set_cons_zero, List.set_cons_succ]
              refine Inv.done (by kernel_rfl) (NoPanic.normal ?_)
              rw [← set_two P7]
              have OT := Lib.hid (on_fresh hw P7 p0 p4 y1 m1 d1 y2 m2 d2)
              have RT_ := Lib.hid (LX.set P7 y1 y2 m1 d1 m2 d2)
              have PT := Lib.hid (setRow_heap wx p _ #[.slice y1 m1 d1, .slice y2 m2 d2] _ _ P7)
              clear k0 k1_ f0 f1 P7 LX DC hd hw e34 e7
              generalize wx.setRow p #[.slice y1 m1 d1, .slice y2 m2 d2] = wT at *
              go_wp2_with (first | ((with_reducible refine Mid.ldrg 29 (.tmp 7) p 29 #[.slice y1 m1 d1, .slice y2 m2 d2] PT.out ?_ ?_ ?_ ?_ ?_ ?_); (· rfl); (· rfl); (· first | rfl | simp [Act.eval]); (· exact ⟨_, rfl, rfl⟩); (· kernel_rfl)) | ((with_reducible refine Mid.str 29 (.tmp 4) (.tmp 38) b4 29 #[.slice x1 n1 c1, .slice x2 n2 c2] #[.slice y1 m1 d1, .slice y2 m2 d2] OT.out.P ?_ ?_ ?_ ?_ ?_ ?_ ?_ ?_); (· rfl); (· rfl); (· first | rfl | simp [Act.eval]); (· first | rfl | simp [Act.eval]); (· kernel_rfl); (· rfl); (· simp [Value.oneCell'])) | fail)
              exact ⟨⟨j + 1, m, _, _, _, _, _, _, f, gz, by omega, by go_num, by omega, Lib.hid (OT.out.put RT_.out)⟩, by simp [intOf]; omega⟩
            · obtain ⟨y1, m1, d1, y2, m2, d2, e34, ⟨gz, LX⟩, DC⟩ : ∃ a n c a' n' c', (σ 34) = .agg #[.slice a n c, .slice a' n' c'] ∧ (∃ g', Rc wx (.slice a n c) (.slice a' n' c') f g') ∧ wx.cell? ⟨w.heap.size, 0, none⟩ = some (.slice a0 len0 cap0) := hd 5 (some 34) (by kernel_rfl) (by decide) (fun h => absurd h (by decide)) (by rfl)
              obtain ⟨p, e7, P7, p0, p4⟩ : ∃ p, (σ 7) = .pointer (some ⟨p, 0, none⟩) ∧ wx.heap[p]? = some (.cells #[.slice none 0 0, .slice none 0 0] 29 (0, 0)) ∧ w2.heap.size ≤ p ∧ p ≠ b4 := hd 7 (some 7) (by kernel_rfl) (by decide) (fun h => absurd h (by decide)) (by rfl)
              obtain e35 : (σ 35) = .int .i64 0 := hd 6 (some 35) (by kernel_rfl) (by decide) (fun h => absurd h (by decide)) (by rfl)
              simp only [e34, e7, e35]
              obtain ⟨k0, k1_⟩ := Spn.c2 P7
              have f0 := frozen_of_row wx p 0 _ _ P7
              have f1 := frozen_of_row wx p 1 _ _ P7
              refine Inv.one (i := 8) (by decide) (by kernel_rfl) (by rfl) (fun K hK => ?_)
              simp only [List.getElem_toArray, List.getElem_cons_zero, List.getElem_cons_succ, Act.put, List.setIfInBounds_toArray, List.set_cons_zero, List.set_cons_succ] at hK ⊢
              go_simp
              refine hK.out _ _ ?_
              clear hK K
              refine Inv.take (i := 9) (v := .int .i64 0) (by decide) rfl (by kernel_rfl) (by kernel_rfl) (by kernel_rfl) (fun _ _ _ h => h) (by rfl) (fun w' => ?_) ?_
              · simp only [List.getElem_toArray, List.getElem_cons_zero, List.getElem_cons_succ]
                go_simp
              try simp only [Act.put, List.setIfInBounds_toArray, List.set_cons_zero, List.set_cons_succ]
              refine Inv.done (by kernel_rfl) (NoPanic.normal ?_)
              rw [← set_two P7]
              have OT := Lib.hid (on_fresh hw P7 p0 p4 y1 m1 d1 y2 m2 d2)
              have RT_ := Lib.hid (LX.set P7 y1 y2 m1 d1 m2 d2)
              have PT := Lib.hid (setRow_heap wx p _ #[.slice y1 m1 d1, .slice y2 m2 d2] _ _ P7)
              clear k0 k1_ f0 f1 P7 LX DC hd hw e34 e7
              generalize wx.setRow p #[.slice y1 m1 d1, .slice y2 m2 d2] = wT at *
              go_wp2_with (first | ((with_reducible refine Mid.ldrg 29 (.tmp 7) p 29 #[.slice y1 m1 d1, .slice y2 m2 d2] PT.out ?_ ?_ ?_ ?_ ?_ ?_); (· rfl); (· rfl); (· first | rfl | simp [Act.eval]); (· exact ⟨_, rfl, rfl⟩); (· kernel_rfl)) | ((with_reducible refine Mid.str 29 (.tmp 4) (.tmp 38) b4 29 #[.slice x1 n1 c1, .slice x2 n2 c2] #[.slice y1 m1 d1, .slice y2 m2 d2] OT.out.P ?_ ?_ ?_ ?_ ?_ ?_ ?_ ?_); (· rfl); (· rfl); (· first | rfl | simp [Act.eval]); (· first | rfl | simp [Act.eval]); (· kernel_rfl); (· rfl); (· simp [Value.oneCell'])) | fail)
              exact ⟨⟨j + 1, m, _, _, _, _, _, _, f, gz, by omega, by go_num, by omega, Lib.hid (OT.out.put RT_.out)⟩, by simp [intOf]; omega⟩
        · have hv' : (v5 == 0) = false := by simp [hv]
          clear hv
          go_wp2_with fail
          refine (next_any 14 O.out.L.di (by omega) (by omega)).mono ?_
          rintro e wB ⟨⟨q, rfl, q0, q9⟩, hl⟩
          replace O := Lib.hid (O.out.left hl)
          clear hl v0 v9 hv'
          go_wp2_with (first | ((with_reducible refine Mid.ldrg 29 (.tmp 4) b4 29 #[.slice x1 n1 c1, .slice x2 n2 c2] O.out.P ?_ ?_ ?_ ?_ ?_ ?_); (· rfl); (· rfl); (· first | rfl | simp [Act.eval]); (· exact ⟨_, rfl, rfl⟩); (· kernel_rfl)) | fail)
          refine (accept_any O.out.R q (by omega) (by omega)).mono ?_
          rintro e wC ⟨⟨vg, vl, rfl, R3⟩, hb⟩
          obtain ⟨y1, m1, d1, y2, m2, d2, rfl, rfl⟩ := Rc.form R3
          replace O := Lib.hid (O.out.below hb)
          clear hb
          go_upto_region 16 with (first | ((with_reducible refine Mid.str 29 (.tmp 10) (.tmp 45) wC.heap.size 29 #[.slice none 0 0, .slice none 0 0] #[.slice y1 m1 d1, .slice y2 m2 d2] (heap_alloc_new wC _) ?_ ?_ ?_ ?_ ?_ ?_ ?_ ?_); (· rfl); (· rfl); (· first | rfl | simp [Act.eval]); (· first | rfl | simp [Act.eval]); (· kernel_rfl); (· rfl); (· simp [Value.oneCell'])) | fail)
          obtain ⟨wD, hwD⟩ : ∃ wD, wD = (wC.alloc (.cells #[.slice none 0 0, .slice none 0 0] 29)).setRow wC.heap.size #[.slice y1 m1 d1, .slice y2 m2 d2] := ⟨_, rfl⟩
          have BX : Below wC.heap.size wC wD := by rw [hwD]; exact Mid.below_row (new_block _) _ _ (Nat.le_refl _)
          have PX : wD.heap[wC.heap.size]? = some (.cells #[.slice y1 m1 d1, .slice y2 m2 d2] 29 (0, 0)) := by rw [hwD]; exact setRow_heap _ _ _ _ _ _ (heap_alloc_new wC _)
          have zX : w2.heap.size ≤ wC.heap.size := O.out.L.far.size
          rw [← hwD]
          replace O := Lib.hid (O.out.below BX)
          replace R3 := R3.keep BX
          generalize wC.heap.size = pX at *
          clear BX
          replace hwD := Lib.hid hwD
          have wfq : (Lit.int .i64 q).wf = true := Mb.wf_small (by omega) (by omega)
          have LK := O.out.M.lookup q wfq
          have H1 := Lib.hid fun wx (hb : Below wD.heap.size wD wx) => refhas_sv q (R3.keep hb).got.rv (by omega)
          have H2 := Lib.hid fun wx (hb : Below wD.heap.size wD wx) => refhas_sv q (R3.keep hb).lost.rv (by omega)
          have VX := Lib.hid fun wx (hb : Below wD.heap.size wD wx) => Rcv.valid_any (R3.keep hb)
          have PD := Lib.hid fun wx (hb : Below wD.heap.size wD wx) => hop hb PX
          have t1 : (f q || decide (q = q)) = true := by simp
          have t2 : (g q && !decide (q = q)) = false := by simp
          rw [t1] at H1
          rw [t2] at H2
          clear t1 t2
          obtain ⟨bq, hbq⟩ : ∃ bq, bq = f q := ⟨_, rfl⟩
          rw [← hbq] at LK ⊢
          replace hbq := Lib.hid hbq
          replace R3 := Lib.hid R3
          have nbq : (!bq == bq) = false := by cases bq <;> rfl
          obtain ⟨k0, k1⟩ := Spn.c2 PX
          go_wp2_with fail
          with_reducible refine (H1.out _ (Below.refl _ _)).mono ?_
          rintro e wE ⟨rfl, hb⟩
          have BC := Lib.hid hb
          clear hb k0 k1 LK nbq
          obtain ⟨k0, k1⟩ := Spn.c2 (PD.out _ BC.out)
          go_wp2_with fail
          with_reducible refine (H2.out _ BC.out).mono ?_
          rintro e wF ⟨rfl, hb⟩
          replace BC := Lib.hid (Buf.then_ BC.out hb)
          clear hb k0 k1
          go_wp2_with (first | ((with_reducible refine Mid.ldrg 29 (.tmp 10) pX 29 #[.slice y1 m1 d1, .slice y2 m2 d2] (PD.out _ BC.out) ?_ ?_ ?_ ?_ ?_ ?_); (· rfl); (· rfl); (· first | rfl | simp [Act.eval]); (· exact ⟨_, rfl, rfl⟩); (· kernel_rfl)) | fail)
          with_reducible refine (VX.out _ BC.out).mono ?_
          rintro e wG ⟨rfl, hb⟩
          replace BC := Lib.hid (Buf.then_ BC.out hb)
          clear hb H1 H2 VX
          go_upto_region 18 with fail
          have b1 := BC.out.drew
          have hw0 : ON w w2 w.heap.size a0 len0 cap0 z0 b4 bm x1 n1 c1 x2 n2 c2 f g f m wG.drew ∧ wG.drew.heap[pX]? = some (.cells #[.slice y1 m1 d1, .slice y2 m2 d2] 29 (0, 0)) ∧ Rc wG.drew (.slice y1 m1 d1) (.slice y2 m2 d2) (fun x => f x || decide (x = q)) (fun x => g x && !decide (x = q)) := ⟨O.out.below b1, PD.out _ b1, R3.out.keep b1⟩
          refine wp_region_noPanic ?_
          refine wp_region_any (by kernel_rfl) ?_
          refine Inv.wpAny_inv2 (fun k => k == 3 || k == 4) 2 99 [75, 76, 77] (fun w' => ON w w2 w.heap.size a0 len0 cap0 z0 b4 bm x1 n1 c1 x2 n2 c2 f g f m w' ∧ w'.heap[pX]? = some (.cells #[.slice y1 m1 d1, .slice y2 m2 d2] 29 (0, 0)) ∧ Rc w' (.slice y1 m1 d1) (.slice y2 m2 d2) (fun x => f x || decide (x = q)) (fun x => g x && !decide (x = q))) (fun _ wa wb => wb = wa) (fun k => ([fun v_ w_ => v_ = .map (some bm), fun v_ w_ => v_ = .int .i64 q, fun v_ w_ => v_ = .agg #[.slice y1 m1 d1, .slice y2 m2 d2], fun v_ w_ => True, fun v_ w_ => True] : List (Value → World → Prop)).getD k (fun _ _ => True)) _ (fun σ => by simp only [Inv.putAll, List.foldl_cons, List.foldl_nil, Act.put, List.setIfInBounds_toArray, List.set_cons_zero, List.set_cons_succ]; rfl) (by kernel_rfl) (by kernel_rfl) (by decide) ?_ hw0 ?_ ?_ (fun b1 b2 => cond b1 2 3) (fun b1 b2 => #[true, true, b1, false, false]) (by intro b1 b2; cases b1 <;> cases b2 <;> kernel_rfl) (by intro b1 b2; cases b1 <;> cases b2 <;> kernel_rfl) (by exact ⟨rfl, rfl⟩) ?_
          · intro j k v w1 w2 hjk hv hr
            rcases k with _ | k
            · exact hv
            rcases k with _ | k
            · exact hv
            rcases k with _ | k
            · exact hv
            rcases k with _ | k
            · exact hv
            rcases k with _ | k
            · exact hv
            · exact hv
          · intro k t hl hd
            rcases k with _ | k
            · exact absurd hl (by decide +kernel)
            rcases k with _ | k
            · exact absurd hl (by decide +kernel)
            rcases k with _ | k
            · exact absurd hl (by decide +kernel)
            rcases k with _ | k
            · exact absurd hl (by decide +kernel)
            rcases k with _ | k
            · exact absurd hl (by decide +kernel)
            · simp at hd
          · show Inv.Steps _ _ _ _ _ _ _ _ [0, 1, 2]
            refine Inv.Steps.go (by decide) (by rfl) (fun σ wx hw hd K hK => ?_) ?_
            · simp only [List.getElem_toArray, List.getElem_cons_zero, List.getElem_cons_succ, Act.put, List.setIfInBounds_toArray, List.set_cons_zero, List.set_cons_succ] at hK ⊢
              go_simp
              exact hK.out _ _ hw rfl (rfl)
            refine Inv.Steps.go (by decide) (by rfl) (fun σ wx hw hd K hK => ?_) ?_
            · simp only [List.getElem_toArray, List.getElem_cons_zero, List.getElem_cons_succ, Act.put, List.setIfInBounds_toArray, List.set_cons_zero, List.set_cons_succ] at hK ⊢
              go_simp
              exact hK.out _ _ hw rfl (rfl)
            refine Inv.Steps.go (by decide) (by rfl) (fun σ wx hw hd K hK => ?_) ?_
            · simp only [List.getElem_toArray, List.getElem_cons_zero, List.getElem_cons_succ, Act.put, List.setIfInBounds_toArray, List.set_cons_zero, List.set_cons_succ] at hK ⊢
              refine wp_load_row 29 (.tmp 10) rfl pX rfl 29 #[.slice y1 m1 d1, .slice y2 m2 d2] (0, 0) _ hw.2.1 rfl rfl rfl ?_
              simp only [Act.put, List.setIfInBounds_toArray, List.set_cons_zero, List.set_cons_succ]
              exact hK.out _ _ hw rfl (rfl)
            exact Inv.Steps.nil
          · intro b1 b2 σ wx hw hd
            cases b1
            · obtain e75 : (σ 75) = .map (some bm) := hd 0 (some 75) (by kernel_rfl) (by decide) (fun h => absurd h (by decide)) (by rfl)
              obtain e76 : (σ 76) = .int .i64 q := hd 1 (some 76) (by kernel_rfl) (by decide) (fun h => absurd h (by decide)) (by rfl)
              simp only [e75, e76]
              refine InvT.both (i := 2) (k := 3) (by decide) (by decide) (by kernel_rfl) (by rfl) (by rfl) (fun K hK => ?_) (fun K hK => ?_)
              · simp only [List.getElem_toArray, List.getElem_cons_zero, List.getElem_cons_succ, Act.put, List.setIfInBounds_toArray, List.set_cons_zero, List.set_cons_succ] at hK ⊢
                refine wp_load_row 29 (.tmp 10) rfl pX rfl 29 #[.slice y1 m1 d1, .slice y2 m2 d2] (0, 0) _ hw.2.1 rfl rfl rfl ?_
                simp only [Act.put, List.setIfInBounds_toArray, List.set_cons_zero, List.set_cons_succ]
                refine hK.out _ _ ?_
                clear hK K
                refine Inv.one (i := 3) (by decide) (by kernel_rfl) (by rfl) (fun K hK => ?_)
                simp only [List.getElem_toArray, List.getElem_cons_zero, List.getElem_cons_succ, Act.put, List.setIfInBounds_toArray, List.set_cons_zero, List.set_cons_succ] at hK ⊢
                refine Mb.wp_put _ _ _ rfl bm m f rfl hw.1.M (by omega) q true rfl rfl wfq ?_
                intro w' hM hG
                refine hK.out _ _ ?_
                clear hK K
                have hM' := hM.out.ext (g := (fun x => f x || decide (x = q))) (fun x => by by_cases e : x = q <;> simp [e])
                have OM := Lib.hid (hw.1.map hM' hG.out)
                have RZ := Lib.hid (hw.2.2.far hG.out (map_cell hw.1.M))
                have PZ := (hG.out.block pX (Array.getElem?_eq_some_iff.1 hw.2.1).1 (by have := map_ne hw.1.M hw.2.1; simp; exact fun e => this e.symm)).trans hw.2.1
                obtain ⟨k0, k1_⟩ := Spn.c2 OM.out.P
                have f0 := frozen_of_row _ b4 0 _ _ OM.out.P
                have f1 := frozen_of_row _ b4 1 _ _ OM.out.P
                refine Inv.one (i := 4) (by decide) (by kernel_rfl) (by rfl) (fun K hK => ?_)
                simp only [List.getElem_toArray, List.getElem_cons_zero, List.getElem_cons_succ, Act.put, List.setIfInBounds_toArray, List.set_cons_zero, List.set_cons_succ] at hK ⊢
                go_simp
                refine hK.out _ _ ?_
                clear hK K k0 k1_ f0 f1
                rw [← set_two OM.out.P]
                refine Inv.done (by kernel_rfl) (NoPanic.normal ?_)
                go_wp2_with fail
                exact ⟨⟨j + 1, m + 1, _, _, _, _, _, _, (fun x => f x || decide (x = q)), _, by omega, by go_num, by omega, Lib.hid (OM.out.put RZ.out)⟩, by simp [intOf]; omega⟩
              · simp only [List.getElem_toArray, List.getElem_cons_zero, List.getElem_cons_succ, Act.put, List.setIfInBounds_toArray, List.set_cons_zero, List.set_cons_succ] at hK ⊢
                refine Mb.wp_put _ _ _ rfl bm m f rfl hw.1.M (by omega) q true rfl rfl wfq ?_
                intro w' hM hG
                refine hK.out _ _ ?_
                clear hK K
                have hM' := hM.out.ext (g := (fun x => f x || decide (x = q))) (fun x => by by_cases e : x = q <;> simp [e])
                have OM := Lib.hid (hw.1.map hM' hG.out)
                have RZ := Lib.hid (hw.2.2.far hG.out (map_cell hw.1.M))
                have PZ := (hG.out.block pX (Array.getElem?_eq_some_iff.1 hw.2.1).1 (by have := map_ne hw.1.M hw.2.1; simp; exact fun e => this e.symm)).trans hw.2.1
                refine Inv.one (i := 2) (by decide) (by kernel_rfl) (by rfl) (fun K hK => ?_)
                simp only [List.getElem_toArray, List.getElem_cons_zero, List.getElem_cons_succ, Act.put, List.setIfInBounds_toArray, List.set_cons_zero, List.set_cons_succ] at hK ⊢
                refine wp_load_row 29 (.tmp 10) rfl pX rfl 29 #[.slice y1 m1 d1, .slice y2 m2 d2] (0, 0) _ PZ rfl rfl rfl ?_
                simp only [Act.put, List.setIfInBounds_toArray, List.set_cons_zero, List.set_cons_succ]
                refine hK.out _ _ ?_
                clear hK K
                obtain ⟨k0, k1_⟩ := Spn.c2 OM.out.P
                have f0 := frozen_of_row _ b4 0 _ _ OM.out.P
                have f1 := frozen_of_row _ b4 1 _ _ OM.out.P
                refine Inv.one (i := 4) (by decide) (by kernel_rfl) (by rfl) (fun K hK => ?_)
                simp only [List.getElem_toArray, List.getElem_cons_zero, List.getElem_cons_succ, Act.put, List.setIfInBounds_toArray, List.set_cons_zero, List.set_cons_succ] at hK ⊢
                go_simp
                refine hK.out _ _ ?_
                clear hK K k0 k1_ f0 f1
                rw [← set_two OM.out.P]
                refine Inv.done (by kernel_rfl) (NoPanic.normal ?_)
                go_wp2_with fail
                exact ⟨⟨j + 1, m + 1, _, _, _, _, _, _, (fun x => f x || decide (x = q)), _, by omega, by go_num, by omega, Lib.hid (OM.out.put RZ.out)⟩, by simp [intOf]; omega⟩
            · obtain e75 : (σ 75) = .map (some bm) := hd 0 (some 75) (by kernel_rfl) (by decide) (fun h => absurd h (by decide)) (by rfl)
              obtain e76 : (σ 76) = .int .i64 q := hd 1 (some 76) (by kernel_rfl) (by decide) (fun h => absurd h (by decide)) (by rfl)
              obtain e77 : (σ 77) = .agg #[.slice y1 m1 d1, .slice y2 m2 d2] := hd 2 (some 77) (by kernel_rfl) (by decide) (fun h => absurd h (by decide)) (by rfl)
              simp only [e75, e76, e77]
              refine Inv.one (i := 3) (by decide) (by kernel_rfl) (by rfl) (fun K hK => ?_)
              simp only [List.getElem_toArray, List.getElem_cons_zero, List.getElem_cons_succ, Act.put, List.setIfInBounds_toArray, List.set_cons_zero, List.set_cons_succ] at hK ⊢
              refine Mb.wp_put _ _ _ rfl bm m f rfl hw.1.M (by omega) q true rfl rfl wfq ?_
              intro w' hM hG
              refine hK.out _ _ ?_
              clear hK K
              have hM' := hM.out.ext (g := (fun x => f x || decide (x = q))) (fun x => by by_cases e : x = q <;> simp [e])
              have OM := Lib.hid (hw.1.map hM' hG.out)
              have RZ := Lib.hid (hw.2.2.far hG.out (map_cell hw.1.M))
              have PZ := (hG.out.block pX (Array.getElem?_eq_some_iff.1 hw.2.1).1 (by have := map_ne hw.1.M hw.2.1; simp; exact fun e => this e.symm)).trans hw.2.1
              obtain ⟨k0, k1_⟩ := Spn.c2 OM.out.P
              have f0 := frozen_of_row _ b4 0 _ _ OM.out.P
              have f1 := frozen_of_row _ b4 1 _ _ OM.out.P
              refine Inv.one (i := 4) (by decide) (by kernel_rfl) (by rfl) (fun K hK => ?_)
              simp only [List.getElem_toArray, List.getElem_cons_zero, List.getElem_cons_succ, Act.put, List.setIfInBounds_toArray, List.set_cons_zero, List.set_cons_succ] at hK ⊢
              go_simp
              refine hK.out _ _ ?_
              clear hK K k0 k1_ f0 f1
              rw [← set_two OM.out.P]
              refine Inv.done (by kernel_rfl) (NoPanic.normal ?_)
              go_wp2_with fail
              exact ⟨⟨j + 1, m + 1, _, _, _, _, _, _, (fun x => f x || decide (x = q)), _, by omega, by go_num, by omega, Lib.hid (OM.out.put RZ.out)⟩, by simp [intOf]; omega⟩
      · obtain rfl : j = 20 := by omega
        go_wp2_with fail
        have HS := Lib.hid fun k wx (hb : Below wr.heap.size wr wx) => refhas_sv k (O.out.R.keep hb).got.rv (by omega)
        have LK := Lib.hid fun k (h : (Lit.int .i64 k).wf = true) wx (hb : Below wr.heap.size wr wx) => (O.out.M.below hb).lookup k h
        have PK := Lib.hid fun wx (hb : Below wr.heap.size wr wx) => Spn.c2 (hop hb O.out.P)
        have BO := Lib.hid O.out.L.di.bel
        have BC := Lib.hid (Below.refl wr.heap.size wr)
        obtain ⟨wO, hwO⟩ : ∃ wO, wO = wr := ⟨_, rfl⟩
        rw [← hwO] at HS LK PK BO BC ⊢
        clear O hj20 hm hwO
        go_loopw [13] (fun i wr => ∃ k : Nat, k ≤ 16 ∧ i = .int .i64 k ∧ Hid (Below wO.heap.size wO wr)) (fun i _ => (16 - intOf i).toNat)
        case atStart => exact ⟨0, by omega, rfl, BC⟩
        case round =>
          clear BC
          obtain ⟨k, hk, rfl, BC⟩ := hrel
          by_cases hk16 : k < 16
          · have hk16' : (k : Int) < 16 := by omega
            have wfk : (Lit.int .i64 (k : Int)).wf = true := Mb.wf_small (by omega) (by omega)
            go_upto_region 22 with fail
            refine Buf.region_calm wr (by kernel_rfl) (by kernel_rfl) (Below.refl _ _) ?_
            repeat (go_big_quiet_step ((intro hC; first
              | (go_at_call 16; with_reducible exact Buf.calm hC (HS.out _ _ (Buf.then_ BC.out hC)))
              | rfl
              | (obtain ⟨k0, k1⟩ := PK.out _ (Buf.then_ BC.out hC); simp only [k0, Result.andThen_ok]; exact ⟨trivial, rfl⟩)
              | (simp only [LK.out _ wfk _ (Buf.then_ BC.out hC), Result.andThen_ok]; exact ⟨trivial, rfl⟩))))
            refine wpQuiet_nil ?_
            intro w9 b9
            go_wp2_with fail
            exact ⟨⟨k + 1, by omega, by go_num, Lib.hid (Buf.then_ BC.out b9)⟩, by simp [intOf]; omega⟩
          · obtain rfl : k = 16 := by omega
            go_wp2_with (go_at_call 10; refine (Sn.out _).mono ?_; rintro e wz ⟨rfl, hb⟩)
            go_ret
            exact ⟨rfl, Buf.then_ BO.out (Buf.then_ BC.out hb)⟩
  · have hd : decide ((len0 : Int) ≤ 500) = false := by simp; omega
    go_enter Try.func3, Try.ntmps3
    go_wp2_with (first | (go_at_call 9; refine (light_any _ _ _ _).mono ?_; rintro e w1 ⟨rfl, rfl⟩; rw [hd]) | (go_at_call 10; refine (Sn.out _).mono ?_; rintro e wz ⟨rfl, hb⟩))
    go_ret
    exact ⟨rfl, hb⟩
end Laws
end Go.Proofs.Ytmcacnlhdfbpnaa
