/- source.Compare. -/
import Derived.Test.YtppbejebmlcloaaDoorSrcI
import Derived.Test.YtppbejebmlcloaaDoorInv
import Derived.Shelf.SlSortCmp.WholeK
import Derived.Deep.DeepCutAuto
set_option linter.unusedVariables false
set_option linter.unusedSimpArgs false
namespace Go.Proofs.YtppbejebmlcloaaDoor
open Go.RowKit Dice
namespace Sc
/-- Nothing but new blocks and draws. -/
def Gr (w w' : World) : Prop := ∃ q os', w' = Go.Sort.grow (w.drewN q) os'
theorem Gr.refl (w : World) : Gr w w := ⟨0, #[], by simp [Go.Sort.grow, World.drewN]⟩
theorem Gr.drew {w w' : World} (h : Gr w w') : Gr w w'.drew := by
  obtain ⟨q, os', rfl⟩ := h
  exact ⟨q + 1, os', rfl⟩
theorem Gr.alloc {w w' : World} (h : Gr w w') (o : Obj) : Gr w (w'.alloc o) := by
  obtain ⟨q, os', rfl⟩ := h
  exact ⟨q, _, by rw [Go.Sort.alloc_eq_grow, Go.Sort.grow_grow]⟩
theorem Gr.trans {w w1 w2 : World} (h : Gr w w1) (k : Gr w1 w2) : Gr w w2 := by
  obtain ⟨q, os', rfl⟩ := h
  obtain ⟨q2, os2, rfl⟩ := k
  refine ⟨q + q2, os' ++ os2, ?_⟩
  simp [Go.Sort.grow, World.drewN, Nat.add_assoc]
theorem Gr.below {w w' : World} (h : Gr w w') : Below w.heap.size w w' := by
  obtain ⟨q, os', rfl⟩ := h
  refine ⟨rfl, rfl, rfl, by simp [Go.Sort.grow, World.drewN], fun k hk => ?_⟩
  simp only [Go.Sort.grow, World.drewN]
  rw [Array.getElem?_append_left hk]
theorem or_cells {w : World} {g : Nat} {a b c d : Int} {t : TypeId} (h : w.heap[g]? = some (.cells #[.int .i64 a, .int .i64 b, .int .i64 c, .int .i64 d] t (0, 0))) (k : Nat) (x : Int) (hx : [a, b, c, d][k]? = some x) : w.cell? ⟨g, k, none⟩ = some (.int .i64 x) := by
  rw [cell_of_row w g k _ _ _ h]
  rcases k with _ | _ | _ | _ | k <;> simp at hx <;> subst hx <;> rfl
set_option maxRecDepth 100000 in
set_option maxHeartbeats 8000000 in
theorem compare_gr (s0 s1 s2 s3 t0 t1 t2 t3 : List UInt8) (r : Int) (hr : r = cf (s0, s1, s2, s3) (t0, t1, t2, t3)) (w : World) :
    Calls Tryd.prog 13 #[.agg #[.string ⟨⟨s0⟩⟩, .string ⟨⟨s1⟩⟩, .string ⟨⟨s2⟩⟩, .string ⟨⟨s3⟩⟩], .agg #[.string ⟨⟨t0⟩⟩, .string ⟨⟨t1⟩⟩, .string ⟨⟨t2⟩⟩, .string ⟨⟨t3⟩⟩]] w fun e w' => e = .returned (.int .i64 r) ∧ Gr w w' := by
  rw [cf_first] at hr
  replace hr := Lib.hid hr
  obtain ⟨w2, hw2⟩ : ∃ w2, w2 = (w.alloc (.cells #[.string ⟨⟨s0⟩⟩, .string ⟨⟨s1⟩⟩, .string ⟨⟨s2⟩⟩, .string ⟨⟨s3⟩⟩] 28)).alloc (.cells #[.string ⟨⟨t0⟩⟩, .string ⟨⟨t1⟩⟩, .string ⟨⟨t2⟩⟩, .string ⟨⟨t3⟩⟩] 28) := ⟨_, rfl⟩
  have W0 := Lib.hid (show Gr w w2 by rw [hw2]; exact ((Gr.refl w).alloc _).alloc _)
  have B0 := Lib.hid (show w2.heap[w.heap.size]? = some (.cells #[.string ⟨⟨s0⟩⟩, .string ⟨⟨s1⟩⟩, .string ⟨⟨s2⟩⟩, .string ⟨⟨s3⟩⟩] 28 (0, 0)) by rw [hw2]; exact (heap_alloc_old _ _ (by simp)).trans (heap_alloc_new w _))
  have B1 := Lib.hid (show w2.heap[w.heap.size + 1]? = some (.cells #[.string ⟨⟨t0⟩⟩, .string ⟨⟨t1⟩⟩, .string ⟨⟨t2⟩⟩, .string ⟨⟨t3⟩⟩] 28 (0, 0)) by rw [hw2]; simpa using heap_alloc_new (w.alloc (.cells #[.string ⟨⟨s0⟩⟩, .string ⟨⟨s1⟩⟩, .string ⟨⟨s2⟩⟩, .string ⟨⟨s3⟩⟩] 28)) (.cells #[.string ⟨⟨t0⟩⟩, .string ⟨⟨t1⟩⟩, .string ⟨⟨t2⟩⟩, .string ⟨⟨t3⟩⟩] 28))
  go_enter Tryd.func13, Tryd.ntmps13
  go_upto_region 1 with fail
  rw [← hw2]
  clear hw2
  refine wp_region_noPanic ?_
  refine wp_region_any (by kernel_rfl) ?_
  refine Inv.wpAny_inv (fun k => k == 22) [5, 6, 7, 8, 9, 10, 11, 12, 13, 14, 15, 16, 17, 18, 19, 20, 21, 22, 23, 24, 25, 26] (fun w' => Gr w2 w') (fun _ w1 w2 => Below w1.heap.size w1 w2) (fun k => ([fun v_ w_ => v_ = .pointer (some ⟨w.heap.size, 0, none⟩), fun v_ w_ => v_ = .string ⟨⟨s0⟩⟩, fun v_ w_ => v_ = .pointer (some ⟨w.heap.size + 1, 0, none⟩), fun v_ w_ => v_ = .string ⟨⟨t0⟩⟩, fun v_ w_ => v_ = .int .i64 (cS s0 t0), fun v_ w_ => v_ = .pointer (some ⟨w.heap.size, 1, none⟩), fun v_ w_ => v_ = .string ⟨⟨s1⟩⟩, fun v_ w_ => v_ = .pointer (some ⟨w.heap.size + 1, 1, none⟩), fun v_ w_ => v_ = .string ⟨⟨t1⟩⟩, fun v_ w_ => v_ = .int .i64 (cS s1 t1), fun v_ w_ => v_ = .pointer (some ⟨w.heap.size, 2, none⟩), fun v_ w_ => v_ = .string ⟨⟨s2⟩⟩, fun v_ w_ => v_ = .pointer (some ⟨w.heap.size + 1, 2, none⟩), fun v_ w_ => v_ = .string ⟨⟨t2⟩⟩, fun v_ w_ => v_ = .int .i64 (cS s2 t2), fun v_ w_ => v_ = .pointer (some ⟨w.heap.size, 3, none⟩), fun v_ w_ => v_ = .string ⟨⟨s3⟩⟩, fun v_ w_ => v_ = .pointer (some ⟨w.heap.size + 1, 3, none⟩), fun v_ w_ => v_ = .string ⟨⟨t3⟩⟩, fun v_ w_ => v_ = .int .i64 (cS s3 t3), fun v_ w_ => ∃ g, v_ = .slice (some ⟨g, 0, none⟩) 4 4 ∧ w_.heap[g]? = some (.cells #[.int .i64 (cS s0 t0), .int .i64 (cS s1 t1), .int .i64 (cS s2 t2), .int .i64 (cS s3 t3)] 3 (0, 0)), fun v_ w_ => v_ = .int .i64 r, fun v_ w_ => True] : List (Value → World → Prop)).getD k (fun _ _ => True)) _ (fun σ => by simp only [Inv.putAll, List.foldl_cons, List.foldl_nil, Act.put, List.setIfInBounds_toArray, List.set_cons_zero, List.set_cons_succ]; rfl) (by kernel_rfl) (by kernel_rfl) ?_ (Gr.drew (Gr.refl w2)) ?_ ?_ 1 #[true, true, true, true, true, true, true, true, true, true, true, true, true, true, true, true, true, true, true, true, true, true, false] (by kernel_rfl) (by kernel_rfl) ?_
  · intro j k v w1 w2 hjk hv hr
    rcases k with _ | k
    · exact hv
    rcases k with _ | k
    · exact hv
    rcases k with _ | k
    · exact hv
    rcases k with _ | k
    · exact hv
    rcases k with _ | k
    · exact hv
    rcases k with _ | k
    · exact hv
    rcases k with _ | k
    · exact hv
    rcases k with _ | k
    · exact hv
    rcases k with _ | k
    · exact hv
    rcases k with _ | k
    · exact hv
    rcases k with _ | k
    · exact hv
    rcases k with _ | k
    · exact hv
    rcases k with _ | k
    · exact hv
    rcases k with _ | k
    · exact hv
    rcases k with _ | k
    · exact hv
    rcases k with _ | k
    · exact hv
    rcases k with _ | k
    · exact hv
    rcases k with _ | k
    · exact hv
    rcases k with _ | k
    · exact hv
    rcases k with _ | k
    · exact hv
    rcases k with _ | k
    · exact (by obtain ⟨g, h1, h2⟩ := hv; exact ⟨g, h1, hb hr h2⟩)
    rcases k with _ | k
    · exact hv
    rcases k with _ | k
    · exact hv
    · exact hv
  · intro k t hl hd
    rcases k with _ | k
    · exact absurd hl (by decide +kernel)
    rcases k with _ | k
    · exact absurd hl (by decide +kernel)
    rcases k with _ | k
    · exact absurd hl (by decide +kernel)
    rcases k with _ | k
    · exact absurd hl (by decide +kernel)
    rcases k with _ | k
    · exact absurd hl (by decide +kernel)
    rcases k with _ | k
    · exact absurd hl (by decide +kernel)
    rcases k with _ | k
    · exact absurd hl (by decide +kernel)
    rcases k with _ | k
    · exact absurd hl (by decide +kernel)
    rcases k with _ | k
    · exact absurd hl (by decide +kernel)
    rcases k with _ | k
    · exact absurd hl (by decide +kernel)
    rcases k with _ | k
    · exact absurd hl (by decide +kernel)
    rcases k with _ | k
    · exact absurd hl (by decide +kernel)
    rcases k with _ | k
    · exact absurd hl (by decide +kernel)
    rcases k with _ | k
    · exact absurd hl (by decide +kernel)
    rcases k with _ | k
    · exact absurd hl (by decide +kernel)
    rcases k with _ | k
    · exact absurd hl (by decide +kernel)
    rcases k with _ | k
    · exact absurd hl (by decide +kernel)
    rcases k with _ | k
    · exact absurd hl (by decide +kernel)
    rcases k with _ | k
    · exact absurd hl (by decide +kernel)
    rcases k with _ | k
    · exact absurd hl (by decide +kernel)
    rcases k with _ | k
    · exact absurd hl (by decide +kernel)
    rcases k with _ | k
    · exact absurd hl (by decide +kernel)
    rcases k with _ | k
    · exact absurd hl (by decide +kernel)
    · simp at hd
  · show Inv.Steps _ _ _ _ _ _ _ _ [0, 1, 2, 3, 4, 5, 6, 7, 8, 9, 10, 11, 12, 13, 14, 15, 16, 17, 18, 19, 20, 21]
    refine Inv.Steps.go (by decide) (by rfl) (fun σ wx hw hd K hK => ?_) ?_
    · simp only [List.getElem_toArray, List.getElem_cons_zero, List.getElem_cons_succ, Act.put, List.setIfInBounds_toArray, List.set_cons_zero, List.set_cons_succ] at hK ⊢
      go_simp
      exact hK.out _ _ hw (Below.refl _ _) (rfl)
    refine Inv.Steps.go (by decide) (by rfl) (fun σ wx hw hd K hK => ?_) ?_
    · obtain e5 : (σ 5) = .pointer (some ⟨w.heap.size, 0, none⟩) := hd 0 (some 5) (by kernel_rfl) (by rfl)
      simp only [List.getElem_toArray, List.getElem_cons_zero, List.getElem_cons_succ, Act.put, List.setIfInBounds_toArray, List.set_cons_zero, List.set_cons_succ, e5] at hK ⊢
      obtain ⟨c0, c1, c2, c3⟩ := Rec.c4 (hb hw.below B0.out)
      go_simp
      exact hK.out _ _ hw (Below.refl _ _) (rfl)
    refine Inv.Steps.go (by decide) (by rfl) (fun σ wx hw hd K hK => ?_) ?_
    · simp only [List.getElem_toArray, List.getElem_cons_zero, List.getElem_cons_succ, Act.put, List.setIfInBounds_toArray, List.set_cons_zero, List.set_cons_succ] at hK ⊢
      go_simp
      exact hK.out _ _ hw (Below.refl _ _) (rfl)
    refine Inv.Steps.go (by decide) (by rfl) (fun σ wx hw hd K hK => ?_) ?_
    · obtain e7 : (σ 7) = .pointer (some ⟨w.heap.size + 1, 0, none⟩) := hd 2 (some 7) (by kernel_rfl) (by rfl)
      simp only [List.getElem_toArray, List.getElem_cons_zero, List.getElem_cons_succ, Act.put, List.setIfInBounds_toArray, List.set_cons_zero, List.set_cons_succ, e7] at hK ⊢
      obtain ⟨c0, c1, c2, c3⟩ := Rec.c4 (hb hw.below B1.out)
      go_simp
      exact hK.out _ _ hw (Below.refl _ _) (rfl)
    refine Inv.Steps.go (by decide) (by rfl) (fun σ wx hw hd K hK => ?_) ?_
    · obtain e6 : (σ 6) = .string ⟨⟨s0⟩⟩ := hd 1 (some 6) (by kernel_rfl) (by rfl)
      obtain e8 : (σ 8) = .string ⟨⟨t0⟩⟩ := hd 3 (some 8) (by kernel_rfl) (by rfl)
      simp only [List.getElem_toArray, List.getElem_cons_zero, List.getElem_cons_succ, Act.put, List.setIfInBounds_toArray, List.set_cons_zero, List.set_cons_succ, e6, e8] at hK ⊢
      go_simp
      go_at_call 22
      refine (compareS_any s0 t0 wx).mono ?_
      rintro e w1 ⟨rfl, hw1⟩
      replace hw1 := hw1.symm
      subst hw1
      dsimp only
      exact hK.out _ _ hw (Below.refl _ _) (rfl)
    refine Inv.Steps.go (by decide) (by rfl) (fun σ wx hw hd K hK => ?_) ?_
    · simp only [List.getElem_toArray, List.getElem_cons_zero, List.getElem_cons_succ, Act.put, List.setIfInBounds_toArray, List.set_cons_zero, List.set_cons_succ] at hK ⊢
      go_simp
      exact hK.out _ _ hw (Below.refl _ _) (rfl)
    refine Inv.Steps.go (by decide) (by rfl) (fun σ wx hw hd K hK => ?_) ?_
    · obtain e10 : (σ 10) = .pointer (some ⟨w.heap.size, 1, none⟩) := hd 5 (some 10) (by kernel_rfl) (by rfl)
      simp only [List.getElem_toArray, List.getElem_cons_zero, List.getElem_cons_succ, Act.put, List.setIfInBounds_toArray, List.set_cons_zero, List.set_cons_succ, e10] at hK ⊢
      obtain ⟨c0, c1, c2, c3⟩ := Rec.c4 (hb hw.below B0.out)
      go_simp
      exact hK.out _ _ hw (Below.refl _ _) (rfl)
    refine Inv.Steps.go (by decide) (by rfl) (fun σ wx hw hd K hK => ?_) ?_
    · simp only [List.getElem_toArray, List.getElem_cons_zero, List.getElem_cons_succ, Act.put, List.setIfInBounds_toArray, List.set_cons_zero, List.set_cons_succ] at hK ⊢
      go_simp
      exact hK.out _ _ hw (Below.refl _ _) (rfl)
    refine Inv.Steps.go (by decide) (by rfl) (fun σ wx hw hd K hK => ?_) ?_
    · obtain e12 : (σ 12) = .pointer (some ⟨w.heap.size + 1, 1, none⟩) := hd 7 (some 12) (by kernel_rfl) (by rfl)
      simp only [List.getElem_toArray, List.getElem_cons_zero, List.getElem_cons_succ, Act.put, List.setIfInBounds_toArray, List.set_cons_zero, List.set_cons_succ, e12] at hK ⊢
      obtain ⟨c0, c1, c2, c3⟩ := Rec.c4 (hb hw.below B1.out)
      go_simp
      exact hK.out _ _ hw (Below.refl _ _) (rfl)
    refine Inv.Steps.go (by decide) (by rfl) (fun σ wx hw hd K hK => ?_) ?_
    · obtain e11 : (σ 11) = .string ⟨⟨s1⟩⟩ := hd 6 (some 11) (by kernel_rfl) (by rfl)
      obtain e13 : (σ 13) = .string ⟨⟨t1⟩⟩ := hd 8 (some 13) (by kernel_rfl) (by rfl)
      simp only [List.getElem_toArray, List.getElem_cons_zero, List.getElem_cons_succ, Act.put, List.setIfInBounds_toArray, List.set_cons_zero, List.set_cons_succ, e11, e13] at hK ⊢
      go_simp
      go_at_call 22
      refine (compareS_any s1 t1 wx).mono ?_
      rintro e w1 ⟨rfl, hw1⟩
      replace hw1 := hw1.symm
      subst hw1
      dsimp only
      exact hK.out _ _ hw (Below.refl _ _) (rfl)
    refine Inv.Steps.go (by decide) (by rfl) (fun σ wx hw hd K hK => ?_) ?_
    · simp only [List.getElem_toArray, List.getElem_cons_zero, List.getElem_cons_succ, Act.put, List.setIfInBounds_toArray, List.set_cons_zero, List.set_cons_succ] at hK ⊢
      go_simp
      exact hK.out _ _ hw (Below.refl _ _) (rfl)
    refine Inv.Steps.go (by decide) (by rfl) (fun σ wx hw hd K hK => ?_) ?_
    · obtain e15 : (σ 15) = .pointer (some ⟨w.heap.size, 2, none⟩) := hd 10 (some 15) (by kernel_rfl) (by rfl)
      simp only [List.getElem_toArray, List.getElem_cons_zero, List.getElem_cons_succ, Act.put, List.setIfInBounds_toArray, List.set_cons_zero, List.set_cons_succ, e15] at hK ⊢
      obtain ⟨c0, c1, c2, c3⟩ := Rec.c4 (hb hw.below B0.out)
      go_simp
      exact hK.out _ _ hw (Below.refl _ _) (rfl)
    refine Inv.Steps.go (by decide) (by rfl) (fun σ wx hw hd K hK => ?_) ?_
    · simp only [List.getElem_toArray, List.getElem_cons_zero, List.getElem_cons_succ, Act.put, List.setIfInBounds_toArray, List.set_cons_zero, List.set_cons_succ] at hK ⊢
      go_simp
      exact hK.out _ _ hw (Below.refl _ _) (rfl)
    refine Inv.Steps.go (by decide) (by rfl) (fun σ wx hw hd K hK => ?_) ?_
    · obtain e17 : (σ 17) = .pointer (some ⟨w.heap.size + 1, 2, none⟩) := hd 12 (some 17) (by kernel_rfl) (by rfl)
      simp only [List.getElem_toArray, List.getElem_cons_zero, List.getElem_cons_succ, Act.put, List.setIfInBounds_toArray, List.set_cons_zero, List.set_cons_succ, e17] at hK ⊢
      obtain ⟨c0, c1, c2, c3⟩ := Rec.c4 (hb hw.below B1.out)
      go_simp
      exact hK.out _ _ hw (Below.refl _ _) (rfl)
    refine Inv.Steps.go (by decide) (by rfl) (fun σ wx hw hd K hK => ?_) ?_
    · obtain e16 : (σ 16) = .string ⟨⟨s2⟩⟩ := hd 11 (some 16) (by kernel_rfl) (by rfl)
      obtain e18 : (σ 18) = .string ⟨⟨t2⟩⟩ := hd 13 (some 18) (by kernel_rfl) (by rfl)
      simp only [List.getElem_toArray, List.getElem_cons_zero, List.getElem_cons_succ, Act.put, List.setIfInBounds_toArray, List.set_cons_zero, List.set_cons_succ, e16, e18] at hK ⊢
      go_simp
      go_at_call 22
      refine (compareS_any s2 t2 wx).mono ?_
      rintro e w1 ⟨rfl, hw1⟩
      replace hw1 := hw1.symm
      subst hw1
      dsimp only
      exact hK.out _ _ hw (Below.refl _ _) (rfl)
    refine Inv.Steps.go (by decide) (by rfl) (fun σ wx hw hd K hK => ?_) ?_
    · simp only [List.getElem_toArray, List.getElem_cons_zero, List.getElem_cons_succ, Act.put, List.setIfInBounds_toArray, List.set_cons_zero, List.set_cons_succ] at hK ⊢
      go_simp
      exact hK.out _ _ hw (Below.refl _ _) (rfl)
    refine Inv.Steps.go (by decide) (by rfl) (fun σ wx hw hd K hK => ?_) ?_
    · obtain e20 : (σ 20) = .pointer (some ⟨w.heap.size, 3, none⟩) := hd 15 (some 20) (by kernel_rfl) (by rfl)
      simp only [List.getElem_toArray, List.getElem_cons_zero, List.getElem_cons_succ, Act.put, List.setIfInBounds_toArray, List.set_cons_zero, List.set_cons_succ, e20] at hK ⊢
      obtain ⟨c0, c1, c2, c3⟩ := Rec.c4 (hb hw.below B0.out)
      go_simp
      exact hK.out _ _ hw (Below.refl _ _) (rfl)
    refine Inv.Steps.go (by decide) (by rfl) (fun σ wx hw hd K hK => ?_) ?_
    · simp only [List.getElem_toArray, List.getElem_cons_zero, List.getElem_cons_succ, Act.put, List.setIfInBounds_toArray, List.set_cons_zero, List.set_cons_succ] at hK ⊢
      go_simp
      exact hK.out _ _ hw (Below.refl _ _) (rfl)
    refine Inv.Steps.go (by decide) (by rfl) (fun σ wx hw hd K hK => ?_) ?_
    · obtain e22 : (σ 22) = .pointer (some ⟨w.heap.size + 1, 3, none⟩) := hd 17 (some 22) (by kernel_rfl) (by rfl)
      simp only [List.getElem_toArray, List.getElem_cons_zero, List.getElem_cons_succ, Act.put, List.setIfInBounds_toArray, List.set_cons_zero, List.set_cons_succ, e22] at hK ⊢
      obtain ⟨c0, c1, c2, c3⟩ := Rec.c4 (hb hw.below B1.out)
      go_simp
      exact hK.out _ _ hw (Below.refl _ _) (rfl)
    refine Inv.Steps.go (by decide) (by rfl) (fun σ wx hw hd K hK => ?_) ?_
    · obtain e21 : (σ 21) = .string ⟨⟨s3⟩⟩ := hd 16 (some 21) (by kernel_rfl) (by rfl)
      obtain e23 : (σ 23) = .string ⟨⟨t3⟩⟩ := hd 18 (some 23) (by kernel_rfl) (by rfl)
      simp only [List.getElem_toArray, List.getElem_cons_zero, List.getElem_cons_succ, Act.put, List.setIfInBounds_toArray, List.set_cons_zero, List.set_cons_succ, e21, e23] at hK ⊢
      go_simp
      go_at_call 22
      refine (compareS_any s3 t3 wx).mono ?_
      rintro e w1 ⟨rfl, hw1⟩
      replace hw1 := hw1.symm
      subst hw1
      dsimp only
      exact hK.out _ _ hw (Below.refl _ _) (rfl)
    refine Inv.Steps.go (by decide) (by rfl) (fun σ wx hw hd K hK => ?_) ?_
    · obtain e9 : (σ 9) = .int .i64 (cS s0 t0) := hd 4 (some 9) (by kernel_rfl) (by rfl)
      obtain e14 : (σ 14) = .int .i64 (cS s1 t1) := hd 9 (some 14) (by kernel_rfl) (by rfl)
      obtain e19 : (σ 19) = .int .i64 (cS s2 t2) := hd 14 (some 19) (by kernel_rfl) (by rfl)
      obtain e24 : (σ 24) = .int .i64 (cS s3 t3) := hd 19 (some 24) (by kernel_rfl) (by rfl)
      simp only [List.getElem_toArray, List.getElem_cons_zero, List.getElem_cons_succ, Act.put, List.setIfInBounds_toArray, List.set_cons_zero, List.set_cons_succ, e9, e14, e19, e24] at hK ⊢
      have hnew := heap_alloc_new wx (.cells #[.int .i64 (cS s0 t0), .int .i64 (cS s1 t1), .int .i64 (cS s2 t2), .int .i64 (cS s3 t3)] 3)
      go_simp
      exact hK.out _ _ (hw.alloc _) (new_block _) (⟨wx.heap.size, rfl, hnew⟩)
    refine Inv.Steps.go (by decide) (by rfl) (fun σ wx hw hd K hK => ?_) ?_
    · obtain ⟨g, e25, h25⟩ : ∃ g, (σ 25) = .slice (some ⟨g, 0, none⟩) 4 4 ∧ wx.heap[g]? = some (.cells #[.int .i64 (cS s0 t0), .int .i64 (cS s1 t1), .int .i64 (cS s2 t2), .int .i64 (cS s3 t3)] 3 (0, 0)) := hd 20 (some 25) (by kernel_rfl) (by rfl)
      simp only [List.getElem_toArray, List.getElem_cons_zero, List.getElem_cons_succ, Act.put, List.setIfInBounds_toArray, List.set_cons_zero, List.set_cons_succ, e25] at hK ⊢
      go_simp
      go_at_call 21
      refine (or4_any [cS s0 t0, cS s1 t1, cS s2 t2, cS s3 t3] 4 rfl (by decide) (fun k x hx => or_cells h25 k x hx)).mono ?_
      rintro e w1 ⟨rfl, hw1⟩
      replace hw1 := hw1.symm
      subst hw1
      rw [← hr.out]
      dsimp only
      exact hK.out _ _ hw (Below.refl _ _) (rfl)
    exact Inv.Steps.nil
  · intro σ wx hw hd
    obtain e26 : (σ 26) = .int .i64 r := hd 21 (some 26) (by rfl) (by rfl)
    simp only [e26]
    refine Inv.take (i := 22) (v := .int .i64 r) (by decide) rfl (by kernel_rfl) (by kernel_rfl) (by kernel_rfl) (fun _ _ _ h => h) (by rfl) (fun w' => ?_) ?_
    · simp only [List.getElem_toArray, List.getElem_cons_zero, List.getElem_cons_succ]
      go_simp
    try simp only [Act.put, List.setIfInBounds_toArray, List.set_cons_zero, List.set_cons_succ]
    refine Inv.done (by kernel_rfl) (NoPanic.normal ?_)
    go_wp2_with fail
    go_ret
    exact ⟨rfl, W0.out.trans hw⟩
end Sc
end Go.Proofs.YtppbejebmlcloaaDoor
