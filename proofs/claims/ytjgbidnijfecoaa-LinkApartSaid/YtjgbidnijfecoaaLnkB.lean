/- link.compare. -/
import Derived.Test.YtjgbidnijfecoaaLnkA
import Derived.Test.YtjgbidnijfecoaaInv
import Derived.Deep.DeepCutAuto
set_option linter.unusedVariables false
set_option linter.unusedSimpArgs false
namespace Go.Proofs.Ytjgbidnijfecoaa
open Go.RowKit Wi Dice
namespace Lnk
theorem hb {w w' : World} {b : Nat} {o : Obj} (h : Below w.heap.size w w') (e : w.heap[b]? = some o) : w'.heap[b]? = some o := (h.block b (Array.getElem?_eq_some_iff.1 e).1).trans e
theorem c3 {w : World} {g : Nat} {x y z : Value} {t : TypeId} (h : w.heap[g]? = some (.cells #[x, y, z] t (0, 0))) : w.cell? ⟨g, 0, none⟩ = some x ∧ w.cell? ⟨g, 1, none⟩ = some y ∧ w.cell? ⟨g, 2, none⟩ = some z :=
  ⟨(cell_of_row w g 0 _ _ _ h).trans rfl, (cell_of_row w g 1 _ _ _ h).trans rfl, (cell_of_row w g 2 _ _ _ h).trans rfl⟩
set_option maxRecDepth 100000 in
set_option maxHeartbeats 4000000 in
theorem compare_any (x1 y1 x2 y2 r : Int) (s1 s2 : ByteArray) (hr : r = if cmpI x1 x2 = 0 then cmpI y1 y2 else cmpI x1 x2) (w : World) :
    Calls Try.prog 26 #[.agg #[.int .i64 x1, .int .i64 y1, .string s1], .agg #[.int .i64 x2, .int .i64 y2, .string s2]] w fun e w' => e = .returned (.int .i64 r) ∧ Below w.heap.size w w' := by
  replace hr := Lib.hid hr
  obtain ⟨w2, hw2⟩ : ∃ w2, w2 = (w.alloc (.cells #[.int .i64 x1, .int .i64 y1, .string s1] 55)).alloc (.cells #[.int .i64 x2, .int .i64 y2, .string s2] 55) := ⟨_, rfl⟩
  have W0 := Lib.hid (show Below w.heap.size w w2 by rw [hw2]; exact (new_block _).alloc (by simp) _)
  have B0 := Lib.hid (show w2.heap[w.heap.size]? = some (.cells #[.int .i64 x1, .int .i64 y1, .string s1] 55 (0, 0)) by rw [hw2]; exact (heap_alloc_old _ _ (by simp)).trans (heap_alloc_new w _))
  have B1 := Lib.hid (show w2.heap[w.heap.size + 1]? = some (.cells #[.int .i64 x2, .int .i64 y2, .string s2] 55 (0, 0)) by rw [hw2]; simpa using heap_alloc_new (w.alloc (.cells #[.int .i64 x1, .int .i64 y1, .string s1] 55)) (.cells #[.int .i64 x2, .int .i64 y2, .string s2] 55))
  go_enter Try.func26, Try.ntmps26
  go_upto_region 1 with fail
  rw [← hw2]
  clear hw2
  have hw0 : Below w2.heap.size w2 w2.drew := (Below.refl _ _).drew
  refine wp_region_noPanic ?_
  refine wp_region_any (by kernel_rfl) ?_
  refine Inv.wpAny_inv (fun k => k == 12) [5, 6, 7, 8, 9, 10, 11, 12, 13, 14, 15, 16] (fun w' => Below w2.heap.size w2 w') (fun _ w1 w2 => Below w1.heap.size w1 w2) (fun k => ([fun v_ w_ => v_ = .pointer (some ⟨w.heap.size, 0, none⟩), fun v_ w_ => v_ = .int .i64 x1, fun v_ w_ => v_ = .pointer (some ⟨w.heap.size + 1, 0, none⟩), fun v_ w_ => v_ = .int .i64 x2, fun v_ w_ => v_ = .int .i64 (cmpI x1 x2), fun v_ w_ => v_ = .pointer (some ⟨w.heap.size, 1, none⟩), fun v_ w_ => v_ = .int .i64 y1, fun v_ w_ => v_ = .pointer (some ⟨w.heap.size + 1, 1, none⟩), fun v_ w_ => v_ = .int .i64 y2, fun v_ w_ => v_ = .int .i64 (cmpI y1 y2), fun v_ w_ => ∃ g, v_ = .slice (some ⟨g, 0, none⟩) 2 2 ∧ w_.heap[g]? = some (.cells #[.int .i64 (cmpI x1 x2), .int .i64 (cmpI y1 y2)] 3 (0, 0)), fun v_ w_ => v_ = .int .i64 r, fun v_ w_ => True] : List (Value → World → Prop)).getD k (fun _ _ => True)) _ (fun σ => by simp only [Inv.putAll, List.foldl_cons, List.foldl_nil, Act.put, List.setIfInBounds_toArray, List.set_cons_zero, List.set_cons_succ]; rfl) (by kernel_rfl) (by kernel_rfl) ?_ hw0 ?_ ?_ 1 #[true, true, true, true, true, true, true, true, true, true, true, true, false] (by kernel_rfl) (by kernel_rfl) ?_
  · intro j k v w1 w2 hjk hv hr
    rcases k with _ | k
    · exact hv
    rcases k with _ | k
    · exact hv
    rcases k with _ | k
    · exact hv
    rcases k with _ | k
    · exact hv
    rcases k with _ | k
    · exact hv
    rcases k with _ | k
    · exact hv
    rcases k with _ | k
    · exact hv
    rcases k with _ | k
    · exact hv
    rcases k with _ | k
    · exact hv
    rcases k with _ | k
    · exact hv
    rcases k with _ | k
    · exact (by obtain ⟨g, h1, h2⟩ := hv; exact ⟨g, h1, hb hr h2⟩)
    rcases k with _ | k
    · exact hv
    rcases k with _ | k
    · exact hv
    · exact hv
  · intro k t hl hd
    rcases k with _ | k
    · exact absurd hl (by decide +kernel)
    rcases k with _ | k
    · exact absurd hl (by decide +kernel)
    rcases k with _ | k
    · exact absurd hl (by decide +kernel)
    rcases k with _ | k
    · exact absurd hl (by decide +kernel)
    rcases k with _ | k
    · exact absurd hl (by decide +kernel)
    rcases k with _ | k
    · exact absurd hl (by decide +kernel)
    rcases k with _ | k
    · exact absurd hl (by decide +kernel)
    rcases k with _ | k
    · exact absurd hl (by decide +kernel)
    rcases k with _ | k
    · exact absurd hl (by decide +kernel)
    rcases k with _ | k
    · exact absurd hl (by decide +kernel)
    rcases k with _ | k
    · exact absurd hl (by decide +kernel)
    rcases k with _ | k
    · exact absurd hl (by decide +kernel)
    rcases k with _ | k
    · exact absurd hl (by decide +kernel)
    · simp at hd
  · show Inv.Steps _ _ _ _ _ _ _ _ [0, 1, 2, 3, 4, 5, 6, 7, 8, 9, 10, 11]
    refine Inv.Steps.go (by decide) (by rfl) (fun σ wx hw hd K hK => ?_) ?_
    · simp only [List.getElem_toArray, List.getElem_cons_zero, List.getElem_cons_succ, Act.put, List.setIfInBounds_toArray, List.set_cons_zero, List.set_cons_succ] at hK ⊢
      go_simp
      exact hK.out _ _ hw (Below.refl _ _) (rfl)
    refine Inv.Steps.go (by decide) (by rfl) (fun σ wx hw hd K hK => ?_) ?_
    · obtain e5 : (σ 5) = .pointer (some ⟨w.heap.size, 0, none⟩) := hd 0 (some 5) (by kernel_rfl) (by rfl)
      simp only [List.getElem_toArray, List.getElem_cons_zero, List.getElem_cons_succ, Act.put, List.setIfInBounds_toArray, List.set_cons_zero, List.set_cons_succ, e5] at hK ⊢
      obtain ⟨c0, c1, c2⟩ := c3 (hb hw B0.out)
      go_simp
      exact hK.out _ _ hw (Below.refl _ _) (rfl)
    refine Inv.Steps.go (by decide) (by rfl) (fun σ wx hw hd K hK => ?_) ?_
    · simp only [List.getElem_toArray, List.getElem_cons_zero, List.getElem_cons_succ, Act.put, List.setIfInBounds_toArray, List.set_cons_zero, List.set_cons_succ] at hK ⊢
      go_simp
      exact hK.out _ _ hw (Below.refl _ _) (rfl)
    refine Inv.Steps.go (by decide) (by rfl) (fun σ wx hw hd K hK => ?_) ?_
    · obtain e7 : (σ 7) = .pointer (some ⟨w.heap.size + 1, 0, none⟩) := hd 2 (some 7) (by kernel_rfl) (by rfl)
      simp only [List.getElem_toArray, List.getElem_cons_zero, List.getElem_cons_succ, Act.put, List.setIfInBounds_toArray, List.set_cons_zero, List.set_cons_succ, e7] at hK ⊢
      obtain ⟨c0, c1, c2⟩ := c3 (hb hw B1.out)
      go_simp
      exact hK.out _ _ hw (Below.refl _ _) (rfl)
    refine Inv.Steps.go (by decide) (by rfl) (fun σ wx hw hd K hK => ?_) ?_
    · obtain e6 : (σ 6) = .int .i64 x1 := hd 1 (some 6) (by kernel_rfl) (by rfl)
      obtain e8 : (σ 8) = .int .i64 x2 := hd 3 (some 8) (by kernel_rfl) (by rfl)
      simp only [List.getElem_toArray, List.getElem_cons_zero, List.getElem_cons_succ, Act.put, List.setIfInBounds_toArray, List.set_cons_zero, List.set_cons_succ, e6, e8] at hK ⊢
      go_simp
      go_at_call 30
      refine (compareI_any x1 x2 wx).mono ?_
      rintro e w1 ⟨rfl, rfl⟩
      dsimp only
      exact hK.out _ _ hw (Below.refl _ _) (rfl)
    refine Inv.Steps.go (by decide) (by rfl) (fun σ wx hw hd K hK => ?_) ?_
    · simp only [List.getElem_toArray, List.getElem_cons_zero, List.getElem_cons_succ, Act.put, List.setIfInBounds_toArray, List.set_cons_zero, List.set_cons_succ] at hK ⊢
      go_simp
      exact hK.out _ _ hw (Below.refl _ _) (rfl)
    refine Inv.Steps.go (by decide) (by rfl) (fun σ wx hw hd K hK => ?_) ?_
    · obtain e10 : (σ 10) = .pointer (some ⟨w.heap.size, 1, none⟩) := hd 5 (some 10) (by kernel_rfl) (by rfl)
      simp only [List.getElem_toArray, List.getElem_cons_zero, List.getElem_cons_succ, Act.put, List.setIfInBounds_toArray, List.set_cons_zero, List.set_cons_succ, e10] at hK ⊢
      obtain ⟨c0, c1, c2⟩ := c3 (hb hw B0.out)
      go_simp
      exact hK.out _ _ hw (Below.refl _ _) (rfl)
    refine Inv.Steps.go (by decide) (by rfl) (fun σ wx hw hd K hK => ?_) ?_
    · simp only [List.getElem_toArray, List.getElem_cons_zero, List.getElem_cons_succ, Act.put, List.setIfInBounds_toArray, List.set_cons_zero, List.set_cons_succ] at hK ⊢
      go_simp
      exact hK.out _ _ hw (Below.refl _ _) (rfl)
    refine Inv.Steps.go (by decide) (by rfl) (fun σ wx hw hd K hK => ?_) ?_
    · obtain e12 : (σ 12) = .pointer (some ⟨w.heap.size + 1, 1, none⟩) := hd 7 (some 12) (by kernel_rfl) (by rfl)
      simp only [List.getElem_toArray, List.getElem_cons_zero, List.getElem_cons_succ, Act.put, List.setIfInBounds_toArray, List.set_cons_zero, List.set_cons_succ, e12] at hK ⊢
      obtain ⟨c0, c1, c2⟩ := c3 (hb hw B1.out)
      go_simp
      exact hK.out _ _ hw (Below.refl _ _) (rfl)
    refine Inv.Steps.go (by decide) (by rfl) (fun σ wx hw hd K hK => ?_) ?_
    · obtain e11 : (σ 11) = .int .i64 y1 := hd 6 (some 11) (by kernel_rfl) (by rfl)
      obtain e13 : (σ 13) = .int .i64 y2 := hd 8 (some 13) (by kernel_rfl) (by rfl)
      simp only [List.getElem_toArray, List.getElem_cons_zero, List.getElem_cons_succ, Act.put, List.setIfInBounds_toArray, List.set_cons_zero, List.set_cons_succ, e11, e13] at hK ⊢
      go_simp
      go_at_call 30
      refine (compareI_any y1 y2 wx).mono ?_
      rintro e w1 ⟨rfl, rfl⟩
      dsimp only
      exact hK.out _ _ hw (Below.refl _ _) (rfl)
    refine Inv.Steps.go (by decide) (by rfl) (fun σ wx hw hd K hK => ?_) ?_
    · obtain e9 : (σ 9) = .int .i64 (cmpI x1 x2) := hd 4 (some 9) (by kernel_rfl) (by rfl)
      obtain e14 : (σ 14) = .int .i64 (cmpI y1 y2) := hd 9 (some 14) (by kernel_rfl) (by rfl)
      simp only [List.getElem_toArray, List.getElem_cons_zero, List.getElem_cons_succ, Act.put, List.setIfInBounds_toArray, List.set_cons_zero, List.set_cons_succ, e9, e14] at hK ⊢
      have hsz := hw.size
      have hnew := heap_alloc_new wx (.cells #[.int .i64 (cmpI x1 x2), .int .i64 (cmpI y1 y2)] 3)
      go_simp
      exact hK.out _ _ (hw.alloc hsz _) (new_block _) (⟨wx.heap.size, rfl, hnew⟩)
    refine Inv.Steps.go (by decide) (by rfl) (fun σ wx hw hd K hK => ?_) ?_
    · obtain ⟨g, e15, h15⟩ : ∃ g, (σ 15) = .slice (some ⟨g, 0, none⟩) 2 2 ∧ wx.heap[g]? = some (.cells #[.int .i64 (cmpI x1 x2), .int .i64 (cmpI y1 y2)] 3 (0, 0)) := hd 10 (some 15) (by kernel_rfl) (by rfl)
      simp only [List.getElem_toArray, List.getElem_cons_zero, List.getElem_cons_succ, Act.put, List.setIfInBounds_toArray, List.set_cons_zero, List.set_cons_succ, e15] at hK ⊢
      have d0 := (cell_of_row wx g 0 _ _ _ h15).trans rfl
      have d1 := (cell_of_row wx g 1 _ _ _ h15).trans rfl
      go_simp
      go_at_call 29
      refine (or_any _ _ r hr.out d0 d1).mono ?_
      rintro e w1 ⟨rfl, rfl⟩
      dsimp only
      exact hK.out _ _ hw (Below.refl _ _) (rfl)
    exact Inv.Steps.nil
  · intro σ wx hw hd
    obtain e16 : (σ 16) = .int .i64 r := hd 11 (some 16) (by rfl) (by rfl)
    simp only [e16]
    refine Inv.take (i := 12) (v := .int .i64 r) (by decide) rfl (by kernel_rfl) (by kernel_rfl) (by kernel_rfl) (fun _ _ _ h => h) (by rfl) (fun w' => ?_) ?_
    · simp only [List.getElem_toArray, List.getElem_cons_zero, List.getElem_cons_succ]
      go_simp
    try simp only [Act.put, List.setIfInBounds_toArray, List.set_cons_zero, List.set_cons_succ]
    refine Inv.done (by kernel_rfl) (NoPanic.normal ?_)
    go_wp2_with fail
    go_ret
    exact ⟨rfl, Buf.then_ W0.out hw⟩
end Lnk
end Go.Proofs.Ytjgbidnijfecoaa
