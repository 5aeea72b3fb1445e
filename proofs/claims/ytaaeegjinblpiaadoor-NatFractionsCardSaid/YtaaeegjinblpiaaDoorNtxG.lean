/- Fractions. -/
import Derived.Test.YtaaeegjinblpiaaDoorNtxZ
import Derived.Test.YtaaeegjinblpiaaDoorInv
import Derived.Test.YtaaeegjinblpiaaDoorRes
import Derived.Deep.DeepCutAuto
set_option linter.unusedVariables false
set_option linter.unusedSimpArgs false
namespace Go.Proofs.YtaaeegjinblpiaaDoor
open Go.RowKit Dice Go.Lib
namespace Nt
theorem c2 {w : World} {b : Nat} {x y : Value} {t : TypeId} (h : w.heap[b]? = some (.cells #[x, y] t (0, 0))) : w.cell? ⟨b, 0, none⟩ = some x ∧ w.cell? ⟨b, 1, none⟩ = some y :=
  ⟨cell_of_row w b 0 _ _ _ h, cell_of_row w b 1 _ _ _ h⟩
theorem hb {w w' : World} {b : Nat} {o : Obj} (h : Below w.heap.size w w') (k : w.heap[b]? = some o) : w'.heap[b]? = some o :=
  (h.block b (Array.getElem?_eq_some_iff.1 k).1).trans k
theorem valid_num {w : World} {u : Value} {x : Int} {j : Nat} (h : Num w u x j) (hj : j ≤ 64) :
    Calls Tryd.prog 24 #[u] w fun e w' => e = .returned (.bool true) ∧ Below w.heap.size w w' := by
  obtain ⟨a, n, c, L, rfl, hn, hl, rfl, hk1⟩ := h
  exact (valid_any hn hl (by omega)).mono fun e w' ⟨h, hw⟩ => ⟨h, by rw [hw]; exact Below.refl _ _⟩
set_option maxHeartbeats 2000000 in
theorem validF_num {w : World} {u v : Value} {p q : Int} {j k : Nat} (hu : Num w u p j) (hv : Num w v q k) (q0 : 0 < q) (hj : j ≤ 64) (hk : k ≤ 64) :
    Calls Tryd.prog 35 #[.agg #[u, v]] w fun e w' => e = .returned (.bool true) ∧ Below w.heap.size w w' := by
  obtain ⟨a, n, c, L, rfl, hn, hl, hq, hk1⟩ := id hv
  have n0 : 0 < n := by
    rcases Nat.eq_zero_or_pos n with h | h
    · have hl0 := hn.len
      rw [h] at hl0
      have : L = [] := List.eq_nil_of_length_eq_zero hl0.symm
      rw [this] at hq; simp [vl] at hq; omega
    · exact h
  have n0i : (0 : Int) < n := by omega
  have b0 := new_block (w := w) (.cells #[u, .slice a n c] 47)
  have V1 := Lib.hid (valid_num (hu.below b0) hj)
  have V2 := Lib.hid fun w' (b : Below w.heap.size w w') => valid_num (hv.below b) hk
  have K := Lib.hid (heap_alloc_new w (.cells #[u, .slice a n c] 47))
  replace b0 := Lib.hid b0
  clear hu hv hn hl hq
  go_enter Tryd.func35, Tryd.ntmps35
  go_wp2_with fail
  obtain ⟨wb, hwb⟩ : ∃ wb, wb = w.alloc (.cells #[u, .slice a n c] 47) := ⟨_, rfl⟩
  obtain ⟨b, hbn⟩ : ∃ b, b = w.heap.size := ⟨_, rfl⟩
  rw [← hwb] at V1 b0 K ⊢
  rw [← hbn] at K ⊢
  replace hwb := Lib.hid hwb
  replace hbn := Lib.hid hbn
  with_reducible refine V1.out.mono ?_
  rintro e w1 ⟨rfl, b1⟩
  have B1 := Lib.hid (show Below w.heap.size w w1 from Buf.then_ b0.out b1)
  have K1 := Lib.hid (hb b1 K.out)
  obtain ⟨k0, k1⟩ := c2 K1.out
  clear V1 b1
  go_wp2_with fail
  with_reducible refine (V2.out _ B1.out).mono ?_
  rintro e w2 ⟨rfl, b2⟩
  have B2 := Lib.hid (Buf.then_ B1.out b2)
  have K2 := Lib.hid (hb b2 K1.out)
  clear k0 k1
  obtain ⟨k0, k1⟩ := c2 K2.out
  clear V2 b2
  go_wp2_with fail
  go_ret
  exact ⟨rfl, B2.out⟩
/-- What a comparison tells of two numbers. -/
def Cmp (c x y : Int) : Prop := (c = -1 ∧ x < y) ∨ (c = 1 ∧ y < x) ∨ (c = 0 ∧ x = y)
theorem told_cmp {x y : Int} {e : Ending} (h : Told x y e) : ∃ c, e = .returned (.int .i64 c) ∧ Cmp c x y := by
  rcases h with ⟨h, k⟩ | ⟨h, k⟩ | ⟨h, k⟩
  · exact ⟨_, h, .inl ⟨rfl, k⟩⟩
  · exact ⟨_, h, .inr (.inl ⟨rfl, k⟩)⟩
  · exact ⟨_, h, .inr (.inr ⟨rfl, k⟩)⟩
theorem mulL_num {w : World} {u v : Value} {x y : Int} {j k : Nat} (h : Num w u x j) (h' : Num w v y k) (hj : j + k ≤ 64) :
    Calls Tryd.prog 27 #[u, v] w fun e w' => (∃ r, e = .returned r ∧ Num w' r (x * y) (j + k)) ∧ Below w.heap.size w w' := by
  obtain ⟨a, n, c, L, rfl, hn, hl, hv, hk1⟩ := h
  obtain ⟨a', n', c', M, rfl, hn', hl', hv', hk2⟩ := h'
  refine (mul_any hn hn' hl.rg hl'.rg (by omega)).mono ?_
  rintro e w1 ⟨⟨b, m, d, S, rfl, q1, q2, q3, q4⟩, hb⟩
  exact ⟨⟨_, rfl, _, _, _, S, rfl, q1, q2, by rw [q3, hv, hv'], by omega⟩, hb⟩
theorem cmpL_num {w : World} {u v : Value} {x y : Int} {j k : Nat} (h : Num w u x j) (h' : Num w v y k) :
    Calls Tryd.prog 28 #[u, v] w fun e w' => (∃ c, e = .returned (.int .i64 c) ∧ Cmp c x y) ∧ Below w.heap.size w w' := by
  obtain ⟨a, n, c, L, rfl, hn, hl, rfl, hk1⟩ := h
  obtain ⟨a', n', c', M, rfl, hn', hl', rfl, hk2⟩ := h'
  exact (compare_any hn hn' hl hl').mono fun e w1 ⟨ht, hm⟩ => ⟨told_cmp ht, bel_drew hm⟩
theorem lim_num {w : World} {u : Value} {x : Int} {j : Nat} (h : Num w u x j) (hj : j ≤ 64) :
    Calls Tryd.prog 25 #[u] w fun e w' => e = .returned (.tuple #[u, .int .i64 0]) ∧ w' = w := by
  obtain ⟨a, n, c, L, rfl, hn, hl, rfl, hk1⟩ := h
  exact limited_any a n c w (by omega)
set_option maxHeartbeats 4000000 in
set_option maxRecDepth 100000 in
theorem order_num {w : World} {u v u' v' : Value} {p q p' q' : Int} {j m j' m' : Nat} (hu : Num w u p j) (hv : Num w v q m) (hu' : Num w u' p' j') (hv' : Num w v' q' m') (q0 : 0 < q) (q0' : 0 < q') (hj : j ≤ 30) (hk : m ≤ 30) (hj' : j' ≤ 30) (hk' : m' ≤ 30) :
    Calls Tryd.prog 36 #[.agg #[u, v], .agg #[u', v']] w fun e w' => (∃ c, e = .returned (.tuple #[.int .i64 c, .int .i64 0]) ∧ Cmp c (p * q') (p' * q)) ∧ Below w.heap.size w w' := by
  obtain ⟨wb, hwb⟩ : ∃ wb, wb = (w.alloc (.cells #[u, v] 47)).alloc (.cells #[u', v'] 47) := ⟨_, rfl⟩
  obtain ⟨x, hx⟩ : ∃ x, x = w.heap.size := ⟨_, rfl⟩
  have zz : (w.alloc (.cells #[u, v] 47)).heap.size = x + 1 := by rw [sz1, hx]
  have B0 := Lib.hid (show Below w.heap.size w wb by rw [hwb]; exact Buf.then_ (new_block _) (new_block _))
  have K := Lib.hid (show wb.heap[x]? = some (.cells #[u, v] 47 (0, 0)) by rw [hwb, hx]; exact hb (new_block _) (heap_alloc_new w _))
  have K' := Lib.hid (show wb.heap[x + 1]? = some (.cells #[u', v'] 47 (0, 0)) by rw [hwb, ← zz]; exact heap_alloc_new _ _)
  replace hwb := Lib.hid hwb
  replace hx := Lib.hid hx
  replace zz := Lib.hid zz
  have V1 := Lib.hid (validF_num (hu.below B0.out) (hv.below B0.out) q0 (by omega) (by omega))
  have V2 := Lib.hid fun w' (b : Below w.heap.size w w') => validF_num (hu'.below b) (hv'.below b) q0' (by omega) (by omega)
  have Mu := Lib.hid fun w' (b : Below w.heap.size w w') => mulL_num (hu.below b) (hv'.below b) (by omega)
  have Mv := Lib.hid fun w' (b : Below w.heap.size w w') => mulL_num (hu'.below b) (hv.below b) (by omega)
  clear hu hv hu' hv'
  go_enter Tryd.func36, Tryd.ntmps36
  go_wp2_with fail
  rw [← hwb.out]
  simp only [zz.out, ← hx.out]
  with_reducible refine V1.out.mono ?_
  rintro e w1 ⟨rfl, b1⟩
  have B1 := Lib.hid (show Below w.heap.size w w1 from Buf.then_ B0.out b1)
  have K1 := Lib.hid (hb b1 K.out)
  have K1' := Lib.hid (hb b1 K'.out)
  obtain ⟨k0, k1⟩ := c2 K1.out
  obtain ⟨l0, l1⟩ := c2 K1'.out
  clear V1 b1 K K' hwb zz
  go_wp2_with fail
  with_reducible refine (V2.out _ B1.out).mono ?_
  rintro e w2 ⟨rfl, b2⟩
  have B2 := Lib.hid (Buf.then_ B1.out b2)
  have K2 := Lib.hid (hb b2 K1.out)
  have K2' := Lib.hid (hb b2 K1'.out)
  clear k0 k1 l0 l1 V2 b2 B1 K1 K1' B0
  go_upto_region 3 with fail
  have Q := Lib.hid fun w' (hC : Below w2.heap.size w2 w') => c2 (hb hC K2.out)
  have Q' := Lib.hid fun w' (hC : Below w2.heap.size w2 w') => c2 (hb hC K2'.out)
  refine wp_region_noPanic ?_
  refine wp_region_any (by kernel_rfl) ?_
  refine Inv.wpAny_inv (fun k => false) [14, 15, 16, 17, 18, 19, 20, 21, 22, 23, 24, 4, 5] (fun w' => Below w2.heap.size w2 w') (fun _ w1 w2 => Below w1.heap.size w1 w2) (fun k => ([fun v_ w_ => v_ = .pointer (some ⟨x, 0, none⟩), fun v_ w_ => v_ = u, fun v_ w_ => v_ = .pointer (some ⟨(x + 1), 1, none⟩), fun v_ w_ => v_ = v', fun v_ w_ => Num w_ v_ (p * q') (j + m'), fun v_ w_ => v_ = .pointer (some ⟨(x + 1), 0, none⟩), fun v_ w_ => v_ = u', fun v_ w_ => v_ = .pointer (some ⟨x, 1, none⟩), fun v_ w_ => v_ = v, fun v_ w_ => Num w_ v_ (p' * q) (j' + m), fun v_ w_ => ∃ c, v_ = .int .i64 c ∧ Cmp c (p * q') (p' * q), fun v_ w_ => ∃ c, v_ = .int .i64 c ∧ Cmp c (p * q') (p' * q), fun v_ w_ => v_ = .int .i64 0] : List (Value → World → Prop)).getD k (fun _ _ => True)) _ (fun σ => by simp only [Inv.putAll, List.foldl_cons, List.foldl_nil, Act.put, List.setIfInBounds_toArray, List.set_cons_zero, List.set_cons_succ]; rfl) (by kernel_rfl) (by kernel_rfl) ?_ (Below.refl _ _).drew ?_ ?_ 0 #[true, true, true, true, true, true, true, true, true, true, true, true, true] (by kernel_rfl) (by kernel_rfl) ?_
  · intro j k v w1 w2 hjk hv hr
    rcases k with _ | k
    · exact hv
    rcases k with _ | k
    · exact hv
    rcases k with _ | k
    · exact hv
    rcases k with _ | k
    · exact hv
    rcases k with _ | k
    · exact Num.below hv hr
    rcases k with _ | k
    · exact hv
    rcases k with _ | k
    · exact hv
    rcases k with _ | k
    · exact hv
    rcases k with _ | k
    · exact hv
    rcases k with _ | k
    · exact Num.below hv hr
    rcases k with _ | k
    · exact hv
    rcases k with _ | k
    · exact hv
    rcases k with _ | k
    · exact hv
    · exact hv
  · intro k t hl hd
    rcases k with _ | k
    · exact absurd hl (by decide +kernel)
    rcases k with _ | k
    · exact absurd hl (by decide +kernel)
    rcases k with _ | k
    · exact absurd hl (by decide +kernel)
    rcases k with _ | k
    · exact absurd hl (by decide +kernel)
    rcases k with _ | k
    · exact absurd hl (by decide +kernel)
    rcases k with _ | k
    · exact absurd hl (by decide +kernel)
    rcases k with _ | k
    · exact absurd hl (by decide +kernel)
    rcases k with _ | k
    · exact absurd hl (by decide +kernel)
    rcases k with _ | k
    · exact absurd hl (by decide +kernel)
    rcases k with _ | k
    · exact absurd hl (by decide +kernel)
    rcases k with _ | k
    · exact absurd hl (by decide +kernel)
    rcases k with _ | k
    · exact absurd hl (by decide +kernel)
    rcases k with _ | k
    · exact absurd hl (by decide +kernel)
    · simp at hd
  · show Inv.Steps _ _ _ _ _ _ _ _ [0, 1, 2, 3, 4, 5, 6, 7, 8, 9, 10, 11, 12]
    refine Inv.Steps.go (by decide) (by rfl) (fun σ wx hw hd K hK => ?_) ?_
    · simp only [List.getElem_toArray, List.getElem_cons_zero, List.getElem_cons_succ, Act.put, List.setIfInBounds_toArray, List.set_cons_zero, List.set_cons_succ] at hK ⊢
      go_simp
      exact hK.out _ _ hw (Below.refl _ _) (rfl)
    refine Inv.Steps.go (by decide) (by rfl) (fun σ wx hw hd K hK => ?_) ?_
    · obtain e14 : (σ 14) = .pointer (some ⟨x, 0, none⟩) := hd 0 (some 14) (by kernel_rfl) (by rfl)
      simp only [List.getElem_toArray, List.getElem_cons_zero, List.getElem_cons_succ, Act.put, List.setIfInBounds_toArray, List.set_cons_zero, List.set_cons_succ, e14] at hK ⊢
      obtain ⟨k0, k1⟩ := Q.out _ hw
      go_simp
      exact hK.out _ _ hw (Below.refl _ _) (rfl)
    refine Inv.Steps.go (by decide) (by rfl) (fun σ wx hw hd K hK => ?_) ?_
    · simp only [List.getElem_toArray, List.getElem_cons_zero, List.getElem_cons_succ, Act.put, List.setIfInBounds_toArray, List.set_cons_zero, List.set_cons_succ] at hK ⊢
      go_simp
      exact hK.out _ _ hw (Below.refl _ _) (rfl)
    refine Inv.Steps.go (by decide) (by rfl) (fun σ wx hw hd K hK => ?_) ?_
    · obtain e16 : (σ 16) = .pointer (some ⟨(x + 1), 1, none⟩) := hd 2 (some 16) (by kernel_rfl) (by rfl)
      simp only [List.getElem_toArray, List.getElem_cons_zero, List.getElem_cons_succ, Act.put, List.setIfInBounds_toArray, List.set_cons_zero, List.set_cons_succ, e16] at hK ⊢
      obtain ⟨k0, k1⟩ := Q'.out _ hw
      go_simp
      exact hK.out _ _ hw (Below.refl _ _) (rfl)
    refine Inv.Steps.go (by decide) (by rfl) (fun σ wx hw hd K hK => ?_) ?_
    · obtain e15 : (σ 15) = u := hd 1 (some 15) (by kernel_rfl) (by rfl)
      obtain e17 : (σ 17) = v' := hd 3 (some 17) (by kernel_rfl) (by rfl)
      simp only [List.getElem_toArray, List.getElem_cons_zero, List.getElem_cons_succ, Act.put, List.setIfInBounds_toArray, List.set_cons_zero, List.set_cons_succ, e15, e17] at hK ⊢
      go_simp
      go_at_call 27
      refine (Mu.out _ (Buf.then_ B2.out hw)).mono ?_
      rintro e w1 ⟨⟨r, rfl, hN⟩, hb⟩
      dsimp only
      exact hK.out _ _ (hw.trans (hb.mono hw.size)) hb (hN)
    refine Inv.Steps.go (by decide) (by rfl) (fun σ wx hw hd K hK => ?_) ?_
    · simp only [List.getElem_toArray, List.getElem_cons_zero, List.getElem_cons_succ, Act.put, List.setIfInBounds_toArray, List.set_cons_zero, List.set_cons_succ] at hK ⊢
      go_simp
      exact hK.out _ _ hw (Below.refl _ _) (rfl)
    refine Inv.Steps.go (by decide) (by rfl) (fun σ wx hw hd K hK => ?_) ?_
    · obtain e19 : (σ 19) = .pointer (some ⟨(x + 1), 0, none⟩) := hd 5 (some 19) (by kernel_rfl) (by rfl)
      simp only [List.getElem_toArray, List.getElem_cons_zero, List.getElem_cons_succ, Act.put, List.setIfInBounds_toArray, List.set_cons_zero, List.set_cons_succ, e19] at hK ⊢
      obtain ⟨k0, k1⟩ := Q'.out _ hw
      go_simp
      exact hK.out _ _ hw (Below.refl _ _) (rfl)
    refine Inv.Steps.go (by decide) (by rfl) (fun σ wx hw hd K hK => ?_) ?_
    · simp only [List.getElem_toArray, List.getElem_cons_zero, List.getElem_cons_succ, Act.put, List.setIfInBounds_toArray, List.set_cons_zero, List.set_cons_succ] at hK ⊢
      go_simp
      exact hK.out _ _ hw (Below.refl _ _) (rfl)
    refine Inv.Steps.go (by decide) (by rfl) (fun σ wx hw hd K hK => ?_) ?_
    · obtain e21 : (σ 21) = .pointer (some ⟨x, 1, none⟩) := hd 7 (some 21) (by kernel_rfl) (by rfl)
      simp only [List.getElem_toArray, List.getElem_cons_zero, List.getElem_cons_succ, Act.put, List.setIfInBounds_toArray, List.set_cons_zero, List.set_cons_succ, e21] at hK ⊢
      obtain ⟨k0, k1⟩ := Q.out _ hw
      go_simp
      exact hK.out _ _ hw (Below.refl _ _) (rfl)
    refine Inv.Steps.go (by decide) (by rfl) (fun σ wx hw hd K hK => ?_) ?_
    · obtain e20 : (σ 20) = u' := hd 6 (some 20) (by kernel_rfl) (by rfl)
      obtain e22 : (σ 22) = v := hd 8 (some 22) (by kernel_rfl) (by rfl)
      simp only [List.getElem_toArray, List.getElem_cons_zero, List.getElem_cons_succ, Act.put, List.setIfInBounds_toArray, List.set_cons_zero, List.set_cons_succ, e20, e22] at hK ⊢
      go_simp
      go_at_call 27
      refine (Mv.out _ (Buf.then_ B2.out hw)).mono ?_
      rintro e w1 ⟨⟨r, rfl, hN⟩, hb⟩
      dsimp only
      exact hK.out _ _ (hw.trans (hb.mono hw.size)) hb (hN)
    refine Inv.Steps.go (by decide) (by rfl) (fun σ wx hw hd K hK => ?_) ?_
    · obtain N18 : Num wx (σ 18) (p * q') (j + m') := hd 4 (some 18) (by kernel_rfl) (by rfl)
      obtain N23 : Num wx (σ 23) (p' * q) (j' + m) := hd 9 (some 23) (by kernel_rfl) (by rfl)
      simp only [List.getElem_toArray, List.getElem_cons_zero, List.getElem_cons_succ, Act.put, List.setIfInBounds_toArray, List.set_cons_zero, List.set_cons_succ] at hK ⊢
      go_simp
      go_at_call 28
      refine (cmpL_num N18 N23).mono ?_
      rintro e w1 ⟨⟨c, rfl, hc⟩, hb⟩
      dsimp only
      exact hK.out _ _ (hw.trans (hb.mono hw.size)) hb (⟨c, rfl, hc⟩)
    refine Inv.Steps.go (by decide) (by rfl) (fun σ wx hw hd K hK => ?_) ?_
    · obtain ⟨c, e24, hc⟩ : ∃ c, (σ 24) = .int .i64 c ∧ Cmp c (p * q') (p' * q) := hd 10 (some 24) (by kernel_rfl) (by rfl)
      simp only [List.getElem_toArray, List.getElem_cons_zero, List.getElem_cons_succ, Act.put, List.setIfInBounds_toArray, List.set_cons_zero, List.set_cons_succ, e24] at hK ⊢
      go_simp
      exact hK.out _ _ hw (Below.refl _ _) (⟨c, rfl, hc⟩)
    refine Inv.Steps.go (by decide) (by rfl) (fun σ wx hw hd K hK => ?_) ?_
    · simp only [List.getElem_toArray, List.getElem_cons_zero, List.getElem_cons_succ, Act.put, List.setIfInBounds_toArray, List.set_cons_zero, List.set_cons_succ] at hK ⊢
      go_simp
      exact hK.out _ _ hw (Below.refl _ _) (rfl)
    exact Inv.Steps.nil
  · intro σ wx hw hd
    obtain ⟨c, e4, hc⟩ : ∃ c, (σ 4) = .int .i64 c ∧ Cmp c (p * q') (p' * q) := hd 11 (some 4) (by kernel_rfl) (by rfl)
    obtain e5 : (σ 5) = .int .i64 0 := hd 12 (some 5) (by kernel_rfl) (by rfl)
    refine Inv.done (by kernel_rfl) (NoPanic.normal ?_)
    simp only [e4, e5]
    clear hd e4 e5
    go_wp2_with fail
    go_ret2
    exact ⟨⟨_, rfl, hc⟩, Buf.then_ B2.out hw⟩
set_option maxHeartbeats 2000000 in
set_option maxRecDepth 100000 in
theorem less_num {w : World} {u v u' v' : Value} {p q p' q' : Int} {j m j' m' : Nat} (hu : Num w u p j) (hv : Num w v q m) (hu' : Num w u' p' j') (hv' : Num w v' q' m') (q0 : 0 < q) (q0' : 0 < q') (hj : j ≤ 30) (hk : m ≤ 30) (hj' : j' ≤ 30) (hk' : m' ≤ 30) :
    Calls Tryd.prog 23 #[.agg #[u, v], .agg #[u', v']] w fun e w' => e = .returned (.tuple #[.bool (decide (p * q' < p' * q)), .int .i64 0]) ∧ Below w.heap.size w w' := by
  obtain ⟨wb, hwb⟩ : ∃ wb, wb = (w.alloc (.cells #[u, v] 47)).alloc (.cells #[u', v'] 47) := ⟨_, rfl⟩
  obtain ⟨x, hx⟩ : ∃ x, x = w.heap.size := ⟨_, rfl⟩
  have zz : (w.alloc (.cells #[u, v] 47)).heap.size = x + 1 := by rw [sz1, hx]
  have B0 := Lib.hid (show Below w.heap.size w wb by rw [hwb]; exact Buf.then_ (new_block _) (new_block _))
  have K := Lib.hid (show wb.heap[x]? = some (.cells #[u, v] 47 (0, 0)) by rw [hwb, hx]; exact hb (new_block _) (heap_alloc_new w _))
  have K' := Lib.hid (show wb.heap[x + 1]? = some (.cells #[u', v'] 47 (0, 0)) by rw [hwb, ← zz]; exact heap_alloc_new _ _)
  replace hwb := Lib.hid hwb
  replace hx := Lib.hid hx
  replace zz := Lib.hid zz
  have O := Lib.hid (order_num (hu.below B0.out) (hv.below B0.out) (hu'.below B0.out) (hv'.below B0.out) q0 q0' hj hk hj' hk')
  obtain ⟨X, hX⟩ : ∃ X, X = p * q' := ⟨_, rfl⟩
  obtain ⟨Y, hY⟩ : ∃ Y, Y = p' * q := ⟨_, rfl⟩
  rw [← hX, ← hY] at O ⊢
  replace hX := Lib.hid hX
  replace hY := Lib.hid hY
  clear hu hv hu' hv'
  obtain ⟨k0, k1⟩ := c2 K.out
  obtain ⟨l0, l1⟩ := c2 K'.out
  go_enter Tryd.func23, Tryd.ntmps23
  go_wp2_with fail
  rw [← hwb.out]
  with_reducible refine O.out.mono ?_
  rintro e w1 ⟨⟨c, rfl, hc⟩, b1⟩
  have BB := Lib.hid (Buf.then_ B0.out b1)
  clear O b1 K K' k0 k1 l0 l1 hwb B0 zz
  rcases hc with ⟨rfl, hc⟩ | ⟨rfl, hc⟩ | ⟨rfl, hc⟩
  all_goals
    first
    | have hd : decide (X < Y) = true := decide_eq_true (by omega)
    | have hd : decide (X < Y) = false := decide_eq_false (by omega)
    go_wp2_with fail
    go_ret2
    exact ⟨by rw [hd]; rfl, BB.out⟩
set_option maxHeartbeats 2000000 in
set_option maxRecDepth 100000 in
theorem equal_num {w : World} {u v u' v' : Value} {p q p' q' : Int} {j m j' m' : Nat} (hu : Num w u p j) (hv : Num w v q m) (hu' : Num w u' p' j') (hv' : Num w v' q' m') (q0 : 0 < q) (q0' : 0 < q') (hj : j ≤ 30) (hk : m ≤ 30) (hj' : j' ≤ 30) (hk' : m' ≤ 30) :
    Calls Tryd.prog 22 #[.agg #[u, v], .agg #[u', v']] w fun e w' => e = .returned (.tuple #[.bool (decide (p * q' = p' * q)), .int .i64 0]) ∧ Below w.heap.size w w' := by
  obtain ⟨wb, hwb⟩ : ∃ wb, wb = (w.alloc (.cells #[u, v] 47)).alloc (.cells #[u', v'] 47) := ⟨_, rfl⟩
  obtain ⟨x, hx⟩ : ∃ x, x = w.heap.size := ⟨_, rfl⟩
  have zz : (w.alloc (.cells #[u, v] 47)).heap.size = x + 1 := by rw [sz1, hx]
  have B0 := Lib.hid (show Below w.heap.size w wb by rw [hwb]; exact Buf.then_ (new_block _) (new_block _))
  have K := Lib.hid (show wb.heap[x]? = some (.cells #[u, v] 47 (0, 0)) by rw [hwb, hx]; exact hb (new_block _) (heap_alloc_new w _))
  have K' := Lib.hid (show wb.heap[x + 1]? = some (.cells #[u', v'] 47 (0, 0)) by rw [hwb, ← zz]; exact heap_alloc_new _ _)
  replace hwb := Lib.hid hwb
  replace hx := Lib.hid hx
  replace zz := Lib.hid zz
  have O := Lib.hid (order_num (hu.below B0.out) (hv.below B0.out) (hu'.below B0.out) (hv'.below B0.out) q0 q0' hj hk hj' hk')
  obtain ⟨X, hX⟩ : ∃ X, X = p * q' := ⟨_, rfl⟩
  obtain ⟨Y, hY⟩ : ∃ Y, Y = p' * q := ⟨_, rfl⟩
  rw [← hX, ← hY] at O ⊢
  replace hX := Lib.hid hX
  replace hY := Lib.hid hY
  clear hu hv hu' hv'
  obtain ⟨k0, k1⟩ := c2 K.out
  obtain ⟨l0, l1⟩ := c2 K'.out
  go_enter Tryd.func22, Tryd.ntmps22
  go_wp2_with fail
  rw [← hwb.out]
  with_reducible refine O.out.mono ?_
  rintro e w1 ⟨⟨c, rfl, hc⟩, b1⟩
  have BB := Lib.hid (Buf.then_ B0.out b1)
  clear O b1 K K' k0 k1 l0 l1 hwb B0 zz
  rcases hc with ⟨rfl, hc⟩ | ⟨rfl, hc⟩ | ⟨rfl, hc⟩
  all_goals
    first
    | have hd : decide (X = Y) = true := decide_eq_true (by omega)
    | have hd : decide (X = Y) = false := decide_eq_false (by omega)
    go_wp2_with fail
    go_ret2
    exact ⟨by rw [hd]; rfl, BB.out⟩
theorem Num.set_row {w : World} {v : Value} {z : Int} {k : Nat} (h : Num w v z k) {b : Nat} {x y : Value} {t : TypeId} (hb : w.heap[b]? = some (.cells #[x, y] t (0, 0))) {o : Nat} (s : Value) (hx : ∀ i, x ≠ .int .i64 i := by intro i h; cases h) : Num (w.setCell ⟨b, o, none⟩ s) v z k := by
  obtain ⟨a, n, c, L, e, hn, hl, hv, hk⟩ := h
  refine ⟨a, n, c, L, e, ⟨hn.len, hn.nc, hn.small, fun h0 => ?_⟩, hl, hv, hk⟩
  obtain ⟨g, he, hg, hc⟩ := hn.at_ h0
  obtain ⟨q, hq⟩ : ∃ q, L[0]? = some q := ⟨L[0]'(by have := hn.len; omega), List.getElem?_eq_getElem _⟩
  have hne : g ≠ b := fun e2 => by
    have c0 := hc 0 q hq
    rw [e2, (c2 hb).1] at c0
    exact hx _ (Option.some.inj c0)
  exact ⟨g, he, by simpa using hg, fun j y hy => (World.cell?_of_block (a := ⟨g, j, none⟩) (Below.heap_setCell w _ _ g hne)).trans (hc j y hy)⟩
theorem cells_set0 (w : World) (b : Nat) (x y r s : Value) (t : TypeId) (h : w.heap[b]? = some (.cells #[x, y] t (0, 0))) : ((w.setCell ⟨b, 0, none⟩ r).setCell ⟨b, 1, none⟩ s).heap[b]? = some (.cells #[r, s] t (0, 0)) :=
  (heap_setCell_same (w.setCell ⟨b, 0, none⟩ r) b 1 _ _ _ ((heap_setCell_same w b 0 _ _ _ h).trans rfl)).trans rfl
set_option maxHeartbeats 4000000 in
set_option maxRecDepth 100000 in
theorem times_num {w : World} {u v u' v' : Value} {p q p' q' : Int} {j m j' m' : Nat} (hu : Num w u p j) (hv : Num w v q m) (hu' : Num w u' p' j') (hv' : Num w v' q' m') (q0 : 0 < q) (q0' : 0 < q') (hj : j ≤ 30) (hk : m ≤ 30) (hj' : j' ≤ 30) (hk' : m' ≤ 30) :
    Calls Tryd.prog 21 #[.agg #[u, v], .agg #[u', v']] w fun e w' => (∃ r s, e = .returned (.tuple #[.agg #[r, s], .int .i64 0]) ∧ Num w' r (p * p') (j + j') ∧ Num w' s (q * q') (m + m')) ∧ Below w.heap.size w w' := by
  obtain ⟨wb, hwb⟩ : ∃ wb, wb = ((w.alloc (.cells #[u, v] 47)).alloc (.cells #[u', v'] 47)).alloc (.cells #[.slice none 0 0, .slice none 0 0] 47) := ⟨_, rfl⟩
  obtain ⟨x, hx⟩ : ∃ x, x = w.heap.size := ⟨_, rfl⟩
  have zz : (w.alloc (.cells #[u, v] 47)).heap.size = x + 1 := by rw [sz1, hx]
  have zy : ((w.alloc (.cells #[u, v] 47)).alloc (.cells #[u', v'] 47)).heap.size = x + 1 + 1 := by rw [sz1, zz]
  have B0 := Lib.hid (show Below w.heap.size w wb by rw [hwb]; exact Buf.then_ (Buf.then_ (new_block _) (new_block _)) (new_block _))
  have K := Lib.hid (show wb.heap[x]? = some (.cells #[u, v] 47 (0, 0)) by rw [hwb, hx]; exact hb (new_block _) (hb (new_block _) (heap_alloc_new w _)))
  have K' := Lib.hid (show wb.heap[x + 1]? = some (.cells #[u', v'] 47 (0, 0)) by rw [hwb, ← zz]; exact hb (new_block _) (heap_alloc_new _ _))
  have KR := Lib.hid (show wb.heap[x + 1 + 1]? = some (.cells #[.slice none 0 0, .slice none 0 0] 47 (0, 0)) by rw [hwb, ← zy]; exact heap_alloc_new _ _)
  replace hwb := Lib.hid hwb
  replace hx := Lib.hid hx
  replace zz := Lib.hid zz
  replace zy := Lib.hid zy
  have V1 := Lib.hid (validF_num (hu.below B0.out) (hv.below B0.out) q0 (by omega) (by omega))
  have V2 := Lib.hid fun w' (b : Below w.heap.size w w') => validF_num (hu'.below b) (hv'.below b) q0' (by omega) (by omega)
  have Mu := Lib.hid fun w' (b : Below w.heap.size w w') => mulL_num (hu.below b) (hu'.below b) (by omega)
  have Mv := Lib.hid fun w' (b : Below w.heap.size w w') => mulL_num (hv.below b) (hv'.below b) (by omega)
  clear hu hv hu' hv'
  go_enter Tryd.func21, Tryd.ntmps21
  go_wp2_with fail
  rw [← hwb.out]
  simp only [zz.out, zy.out, ← hx.out]
  with_reducible refine V1.out.mono ?_
  rintro e w1 ⟨rfl, b1⟩
  have B1 := Lib.hid (show Below w.heap.size w w1 from Buf.then_ B0.out b1)
  have K1 := Lib.hid (hb b1 K.out)
  have K1' := Lib.hid (hb b1 K'.out)
  have KR1 := Lib.hid (hb b1 KR.out)
  obtain ⟨k0, k1⟩ := c2 K1.out
  obtain ⟨l0, l1⟩ := c2 K1'.out
  clear V1 b1 K K' KR hwb zz zy B0
  go_wp2_with fail
  with_reducible refine (V2.out _ B1.out).mono ?_
  rintro e w2 ⟨rfl, b2⟩
  have B2 := Lib.hid (Buf.then_ B1.out b2)
  have K2 := Lib.hid (hb b2 K1.out)
  have K2' := Lib.hid (hb b2 K1'.out)
  have KR2 := Lib.hid (hb b2 KR1.out)
  clear k0 k1 l0 l1 V2 b2 B1 K1 K1' KR1
  obtain ⟨k0, k1⟩ := c2 K2.out
  obtain ⟨l0, l1⟩ := c2 K2'.out
  go_wp2_with fail
  with_reducible refine (Mu.out _ B2.out).mono ?_
  rintro e w3 ⟨⟨r, rfl, NR⟩, b3⟩
  have B3 := Lib.hid (Buf.then_ B2.out b3)
  have K3 := Lib.hid (hb b3 K2.out)
  have K3' := Lib.hid (hb b3 K2'.out)
  have KR3 := Lib.hid (hb b3 KR2.out)
  obtain ⟨ra, rn, rc, _, rfl, _⟩ := id NR
  have L1 := Lib.hid (lim_num NR (by omega))
  replace NR := Lib.hid NR
  clear k0 k1 l0 l1 b3 B2 K2 K2' KR2 Mu
  go_wp2_with fail
  with_reducible refine L1.out.mono ?_
  rintro e w4 ⟨rfl, hw⟩
  subst hw
  clear L1
  obtain ⟨k0, k1⟩ := c2 K3.out
  obtain ⟨l0, l1⟩ := c2 K3'.out
  go_wp2_with fail
  with_reducible refine (Mv.out _ B3.out).mono ?_
  rintro e w5 ⟨⟨s, rfl, NS⟩, b5⟩
  have B5 := Lib.hid (Buf.then_ B3.out b5)
  have KR5 := Lib.hid (hb b5 KR3.out)
  replace NR := Lib.hid (NR.out.below b5)
  obtain ⟨sa, sn, sc, _, rfl, _⟩ := id NS
  have L1 := Lib.hid (lim_num NS (by omega))
  replace NS := Lib.hid NS
  clear k0 k1 l0 l1 b5 B3 K3 K3' KR3 Mv
  go_wp2_with fail
  with_reducible refine L1.out.mono ?_
  rintro e w6 ⟨rfl, hw⟩
  subst hw
  clear L1
  obtain ⟨k0, k1⟩ := c2 KR5.out
  have f0 := frozen_of_row w6 (x + 1 + 1) 0 _ _ KR5.out
  have f1 := frozen_of_row w6 (x + 1 + 1) 1 _ _ KR5.out
  go_wp2_with fail
  have Z := cells_set0 w6 (x + 1 + 1) _ _ (.slice ra rn rc) (.slice sa sn sc) _ KR5.out
  have hxz := hx.out
  have BZ := (B5.out.setCell (p := ⟨x + 1 + 1, 0, none⟩) (by show w.heap.size ≤ x + 1 + 1; omega) (.slice ra rn rc)).setCell (p := ⟨x + 1 + 1, 1, none⟩) (by show w.heap.size ≤ x + 1 + 1; omega) (.slice sa sn sc)
  have NR' := (NR.out.set_row KR5.out (.slice ra rn rc)).set_row ((heap_setCell_same w6 (x + 1 + 1) 0 _ _ _ KR5.out).trans rfl) (o := 1) (.slice sa sn sc)
  have NS' := (NS.out.set_row KR5.out (.slice ra rn rc)).set_row ((heap_setCell_same w6 (x + 1 + 1) 0 _ _ _ KR5.out).trans rfl) (o := 1) (.slice sa sn sc)
  exact bodyPost_ret (Res.row_tmp rfl _ _ (x + 1 + 1) _ _ _ _ rfl Z rfl (by rfl) rfl) rfl ⟨⟨_, _, rfl, NR', NS'⟩, BZ⟩
end Nt
end Go.Proofs.YtaaeegjinblpiaaDoor
