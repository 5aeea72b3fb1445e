/- Package record: firstTime, Compare, Better. -/
import Derived.Test.YtojfnegogdllfaaRecM
import Derived.Test.YtojfnegogdllfaaInvB
import Derived.Deep.DeepCutAuto
set_option linter.unusedVariables false
set_option linter.unusedSimpArgs false
namespace Go.Proofs.Ytojfnegogdllfaa
open Go.RowKit
namespace Rec
open Dice Sc
theorem or_at {w : World} {g : Nat} {t : TypeId} (L : List Int) (h : w.heap[g]? = some (.cells (L.map fun z => Value.int .i64 z).toArray t (0, 0))) (k : Nat) (x : Int) (hx : L[k]? = some x) : w.cell? ⟨g, k, none⟩ = some (.int .i64 x) := by
  rw [cell_of_row w g k _ _ _ h]
  simp [hx]
theorem compareS_same (x : List UInt8) (w : World) : Calls Try.prog 52 #[.string ⟨⟨x⟩⟩, .string ⟨⟨x⟩⟩] w fun e w' => e = .returned (.int .i64 0) ∧ w' = w := by
  have := compareS_any x x w
  rwa [(cS_to.zero x x).2 rfl] at this
set_option maxRecDepth 100000 in
set_option maxHeartbeats 8000000 in
theorem source_same (s0 s1 s2 s3 : List UInt8) (w : World) :
    Calls Try.prog 37 #[.agg #[.string ⟨⟨s0⟩⟩, .string ⟨⟨s1⟩⟩, .string ⟨⟨s2⟩⟩, .string ⟨⟨s3⟩⟩], .agg #[.string ⟨⟨s0⟩⟩, .string ⟨⟨s1⟩⟩, .string ⟨⟨s2⟩⟩, .string ⟨⟨s3⟩⟩]] w fun e w' => e = .returned (.int .i64 0) ∧ Below w.heap.size w w' := by
  obtain ⟨w2, hw2⟩ : ∃ w2, w2 = (w.alloc (.cells #[.string ⟨⟨s0⟩⟩, .string ⟨⟨s1⟩⟩, .string ⟨⟨s2⟩⟩, .string ⟨⟨s3⟩⟩] 28)).alloc (.cells #[.string ⟨⟨s0⟩⟩, .string ⟨⟨s1⟩⟩, .string ⟨⟨s2⟩⟩, .string ⟨⟨s3⟩⟩] 28) := ⟨_, rfl⟩
  have W0 := Lib.hid (show Below w.heap.size w w2 by rw [hw2]; exact (new_block _).alloc (by simp) _)
  have B0 := Lib.hid (show w2.heap[w.heap.size]? = some (.cells #[.string ⟨⟨s0⟩⟩, .string ⟨⟨s1⟩⟩, .string ⟨⟨s2⟩⟩, .string ⟨⟨s3⟩⟩] 28 (0, 0)) by rw [hw2]; exact (heap_alloc_old _ _ (by simp)).trans (heap_alloc_new w _))
  have B1 := Lib.hid (show w2.heap[w.heap.size + 1]? = some (.cells #[.string ⟨⟨s0⟩⟩, .string ⟨⟨s1⟩⟩, .string ⟨⟨s2⟩⟩, .string ⟨⟨s3⟩⟩] 28 (0, 0)) by rw [hw2]; simpa using heap_alloc_new (w.alloc (.cells #[.string ⟨⟨s0⟩⟩, .string ⟨⟨s1⟩⟩, .string ⟨⟨s2⟩⟩, .string ⟨⟨s3⟩⟩] 28)) (.cells #[.string ⟨⟨s0⟩⟩, .string ⟨⟨s1⟩⟩, .string ⟨⟨s2⟩⟩, .string ⟨⟨s3⟩⟩] 28))
  go_enter Try.func37, Try.ntmps37
  go_upto_region 1 with fail
  rw [← hw2]
  clear hw2
  have hw0 : Below w2.heap.size w2 w2.drew := (Below.refl _ _).drew
  refine wp_region_noPanic ?_
  refine wp_region_any (by kernel_rfl) ?_
  refine Inv.wpAny_inv (fun k => k == 22) [5, 6, 7, 8, 9, 10, 11, 12, 13, 14, 15, 16, 17, 18, 19, 20, 21, 22, 23, 24, 25, 26] (fun w' => Below w2.heap.size w2 w') (fun _ w1 w2 => Below w1.heap.size w1 w2) (fun k => ([fun v_ w_ => v_ = .pointer (some ⟨w.heap.size, 0, none⟩), fun v_ w_ => v_ = .string ⟨⟨s0⟩⟩, fun v_ w_ => v_ = .pointer (some ⟨w.heap.size + 1, 0, none⟩), fun v_ w_ => v_ = .string ⟨⟨s0⟩⟩, fun v_ w_ => v_ = .int .i64 0, fun v_ w_ => v_ = .pointer (some ⟨w.heap.size, 1, none⟩), fun v_ w_ => v_ = .string ⟨⟨s1⟩⟩, fun v_ w_ => v_ = .pointer (some ⟨w.heap.size + 1, 1, none⟩), fun v_ w_ => v_ = .string ⟨⟨s1⟩⟩, fun v_ w_ => v_ = .int .i64 0, fun v_ w_ => v_ = .pointer (some ⟨w.heap.size, 2, none⟩), fun v_ w_ => v_ = .string ⟨⟨s2⟩⟩, fun v_ w_ => v_ = .pointer (some ⟨w.heap.size + 1, 2, none⟩), fun v_ w_ => v_ = .string ⟨⟨s2⟩⟩, fun v_ w_ => v_ = .int .i64 0, fun v_ w_ => v_ = .pointer (some ⟨w.heap.size, 3, none⟩), fun v_ w_ => v_ = .string ⟨⟨s3⟩⟩, fun v_ w_ => v_ = .pointer (some ⟨w.heap.size + 1, 3, none⟩), fun v_ w_ => v_ = .string ⟨⟨s3⟩⟩, fun v_ w_ => v_ = .int .i64 0, fun v_ w_ => ∃ g, v_ = .slice (some ⟨g, 0, none⟩) 4 4 ∧ w_.heap[g]? = some (.cells #[.int .i64 0, .int .i64 0, .int .i64 0, .int .i64 0] 3 (0, 0)), fun v_ w_ => v_ = .int .i64 0, fun v_ w_ => True] : List (Value → World → Prop)).getD k (fun _ _ => True)) _ (fun σ => by simp only [Inv.putAll, List.foldl_cons, List.foldl_nil, Act.put, List.setIfInBounds_toArray, List.set_cons_zero, List.set_cons_succ]; rfl) (by kernel_rfl) (by kernel_rfl) ?_ hw0 ?_ ?_ 1 #[true, true, true, true, true, true, true, true, true, true, true, true, true, true, true, true, true, true, true, true, true, true, false] (by kernel_rfl) (by kernel_rfl) ?_
  · intro j k v w1 w2 hjk hv hr
    rcases k with _ | k
    · exact hv
    rcases k with _ | k
    · exact hv
    rcases k with _ | k
    · exact hv
    rcases k with _ | k
    · exact hv
    rcases k with _ | k
    · exact hv
    rcases k with _ | k
    · exact hv
    rcases k with _ | k
    · exact hv
    rcases k with _ | k
    · exact hv
    rcases k with _ | k
    · exact hv
    rcases k with _ | k
    · exact hv
    rcases k with _ | k
    · exact hv
    rcases k with _ | k
    · exact hv
    rcases k with _ | k
    · exact hv
    rcases k with _ | k
    · exact hv
    rcases k with _ | k
    · exact hv
    rcases k with _ | k
    · exact hv
    rcases k with _ | k
    · exact hv
    rcases k with _ | k
    · exact hv
    rcases k with _ | k
    · exact hv
    rcases k with _ | k
    · exact hv
    rcases k with _ | k
    · exact (by obtain ⟨g, h1, h2⟩ := hv; exact ⟨g, h1, hb hr h2⟩)
    rcases k with _ | k
    · exact hv
    rcases k with _ | k
    · exact hv
    · exact hv
  · intro k t hl hd
    rcases k with _ | k
    · exact absurd hl (by decide +kernel)
    rcases k with _ | k
    · exact absurd hl (by decide +kernel)
    rcases k with _ | k
    · exact absurd hl (by decide +kernel)
    rcases k with _ | k
    · exact absurd hl (by decide +kernel)
    rcases k with _ | k
    · exact absurd hl (by decide +kernel)
    rcases k with _ | k
    · exact absurd hl (by decide +kernel)
    rcases k with _ | k
    · exact absurd hl (by decide +kernel)
    rcases k with _ | k
    · exact absurd hl (by decide +kernel)
    rcases k with _ | k
    · exact absurd hl (by decide +kernel)
    rcases k with _ | k
    · exact absurd hl (by decide +kernel)
    rcases k with _ | k
    · exact absurd hl (by decide +kernel)
    rcases k with _ | k
    · exact absurd hl (by decide +kernel)
    rcases k with _ | k
    · exact absurd hl (by decide +kernel)
    rcases k with _ | k
    · exact absurd hl (by decide +kernel)
    rcases k with _ | k
    · exact absurd hl (by decide +kernel)
    rcases k with _ | k
    · exact absurd hl (by decide +kernel)
    rcases k with _ | k
    · exact absurd hl (by decide +kernel)
    rcases k with _ | k
    · exact absurd hl (by decide +kernel)
    rcases k with _ | k
    · exact absurd hl (by decide +kernel)
    rcases k with _ | k
    · exact absurd hl (by decide +kernel)
    rcases k with _ | k
    · exact absurd hl (by decide +kernel)
    rcases k with _ | k
    · exact absurd hl (by decide +kernel)
    rcases k with _ | k
    · exact absurd hl (by decide +kernel)
    · simp at hd
  · show Inv.Steps _ _ _ _ _ _ _ _ [0, 1, 2, 3, 4, 5, 6, 7, 8, 9, 10, 11, 12, 13, 14, 15, 16, 17, 18, 19, 20, 21]
    refine Inv.Steps.go (by decide) (by rfl) (fun σ wx hw hd K hK => ?_) ?_
    · simp only [List.getElem_toArray, List.getElem_cons_zero, List.getElem_cons_succ, Act.put, List.setIfInBounds_toArray, List.set_cons_zero, List.set_cons_succ] at hK ⊢
      go_simp
      exact hK.out _ _ hw (Below.refl _ _) (rfl)
    refine Inv.Steps.go (by decide) (by rfl) (fun σ wx hw hd K hK => ?_) ?_
    · obtain e5 : (σ 5) = .pointer (some ⟨w.heap.size, 0, none⟩) := hd 0 (some 5) (by kernel_rfl) (by rfl)
      simp only [List.getElem_toArray, List.getElem_cons_zero, List.getElem_cons_succ, Act.put, List.setIfInBounds_toArray, List.set_cons_zero, List.set_cons_succ, e5] at hK ⊢
      obtain ⟨c0, c1, c2, c3⟩ := Rec.c4 (hb hw B0.out)
      go_simp
      exact hK.out _ _ hw (Below.refl _ _) (rfl)
    refine Inv.Steps.go (by decide) (by rfl) (fun σ wx hw hd K hK => ?_) ?_
    · simp only [List.getElem_toArray, List.getElem_cons_zero, List.getElem_cons_succ, Act.put, List.setIfInBounds_toArray, List.set_cons_zero, List.set_cons_succ] at hK ⊢
      go_simp
      exact hK.out _ _ hw (Below.refl _ _) (rfl)
    refine Inv.Steps.go (by decide) (by rfl) (fun σ wx hw hd K hK => ?_) ?_
    · obtain e7 : (σ 7) = .pointer (some ⟨w.heap.size + 1, 0, none⟩) := hd 2 (some 7) (by kernel_rfl) (by rfl)
      simp only [List.getElem_toArray, List.getElem_cons_zero, List.getElem_cons_succ, Act.put, List.setIfInBounds_toArray, List.set_cons_zero, List.set_cons_succ, e7] at hK ⊢
      obtain ⟨c0, c1, c2, c3⟩ := Rec.c4 (hb hw B1.out)
      go_simp
      exact hK.out _ _ hw (Below.refl _ _) (rfl)
    refine Inv.Steps.go (by decide) (by rfl) (fun σ wx hw hd K hK => ?_) ?_
    · obtain e6 : (σ 6) = .string ⟨⟨s0⟩⟩ := hd 1 (some 6) (by kernel_rfl) (by rfl)
      obtain e8 : (σ 8) = .string ⟨⟨s0⟩⟩ := hd 3 (some 8) (by kernel_rfl) (by rfl)
      simp only [List.getElem_toArray, List.getElem_cons_zero, List.getElem_cons_succ, Act.put, List.setIfInBounds_toArray, List.set_cons_zero, List.set_cons_succ, e6, e8] at hK ⊢
      go_simp
      go_at_call 52
      refine (compareS_same s0 wx).mono ?_
      rintro e w1 ⟨rfl, hw1⟩
      replace hw1 := hw1.symm
      subst hw1
      dsimp only
      exact hK.out _ _ hw (Below.refl _ _) (rfl)
    refine Inv.Steps.go (by decide) (by rfl) (fun σ wx hw hd K hK => ?_) ?_
    · simp only [List.getElem_toArray, List.getElem_cons_zero, List.getElem_cons_succ, Act.put, List.setIfInBounds_toArray, List.set_cons_zero, List.set_cons_succ] at hK ⊢
      go_simp
      exact hK.out _ _ hw (Below.refl _ _) (rfl)
    refine Inv.Steps.go (by decide) (by rfl) (fun σ wx hw hd K hK => ?_) ?_
    · obtain e10 : (σ 10) = .pointer (some ⟨w.heap.size, 1, none⟩) := hd 5 (some 10) (by kernel_rfl) (by rfl)
      simp only [List.getElem_toArray, List.getElem_cons_zero, List.getElem_cons_succ, Act.put, List.setIfInBounds_toArray, List.set_cons_zero, List.set_cons_succ, e10] at hK ⊢
      obtain ⟨c0, c1, c2, c3⟩ := Rec.c4 (hb hw B0.out)
      go_simp
      exact hK.out _ _ hw (Below.refl _ _) (rfl)
    refine Inv.Steps.go (by decide) (by rfl) (fun σ wx hw hd K hK => ?_) ?_
    · simp only [List.getElem_toArray, List.getElem_cons_zero, List.getElem_cons_succ, Act.put, List.setIfInBounds_toArray, List.set_cons_zero, List.set_cons_succ] at hK ⊢
      go_simp
      exact hK.out _ _ hw (Below.refl _ _) (rfl)
    refine Inv.Steps.go (by decide) (by rfl) (fun σ wx hw hd K hK => ?_) ?_
    · obtain e12 : (σ 12) = .pointer (some ⟨w.heap.size + 1, 1, none⟩) := hd 7 (some 12) (by kernel_rfl) (by rfl)
      simp only [List.getElem_toArray, List.getElem_cons_zero, List.getElem_cons_succ, Act.put, List.setIfInBounds_toArray, List.set_cons_zero, List.set_cons_succ, e12] at hK ⊢
      obtain ⟨c0, c1, c2, c3⟩ := Rec.c4 (hb hw B1.out)
      go_simp
      exact hK.out _ _ hw (Below.refl _ _) (rfl)
    refine Inv.Steps.go (by decide) (by rfl) (fun σ wx hw hd K hK => ?_) ?_
    · obtain e11 : (σ 11) = .string ⟨⟨s1⟩⟩ := hd 6 (some 11) (by kernel_rfl) (by rfl)
      obtain e13 : (σ 13) = .string ⟨⟨s1⟩⟩ := hd 8 (some 13) (by kernel_rfl) (by rfl)
      simp only [List.getElem_toArray, List.getElem_cons_zero, List.getElem_cons_succ, Act.put, List.setIfInBounds_toArray, List.set_cons_zero, List.set_cons_succ, e11, e13] at hK ⊢
      go_simp
      go_at_call 52
      refine (compareS_same s1 wx).mono ?_
      rintro e w1 ⟨rfl, hw1⟩
      replace hw1 := hw1.symm
      subst hw1
      dsimp only
      exact hK.out _ _ hw (Below.refl _ _) (rfl)
    refine Inv.Steps.go (by decide) (by rfl) (fun σ wx hw hd K hK => ?_) ?_
    · simp only [List.getElem_toArray, List.getElem_cons_zero, List.getElem_cons_succ, Act.put, List.setIfInBounds_toArray, List.set_cons_zero, List.set_cons_succ] at hK ⊢
      go_simp
      exact hK.out _ _ hw (Below.refl _ _) (rfl)
    refine Inv.Steps.go (by decide) (by rfl) (fun σ wx hw hd K hK => ?_) ?_
    · obtain e15 : (σ 15) = .pointer (some ⟨w.heap.size, 2, none⟩) := hd 10 (some 15) (by kernel_rfl) (by rfl)
      simp only [List.getElem_toArray, List.getElem_cons_zero, List.getElem_cons_succ, Act.put, List.setIfInBounds_toArray, List.set_cons_zero, List.set_cons_succ, e15] at hK ⊢
      obtain ⟨c0, c1, c2, c3⟩ := Rec.c4 (hb hw B0.out)
      go_simp
      exact hK.out _ _ hw (Below.refl _ _) (rfl)
    refine Inv.Steps.go (by decide) (by rfl) (fun σ wx hw hd K hK => ?_) ?_
    · simp only [List.getElem_toArray, List.getElem_cons_zero, List.getElem_cons_succ, Act.put, List.setIfInBounds_toArray, List.set_cons_zero, List.set_cons_succ] at hK ⊢
      go_simp
      exact hK.out _ _ hw (Below.refl _ _) (rfl)
    refine Inv.Steps.go (by decide) (by rfl) (fun σ wx hw hd K hK => ?_) ?_
    · obtain e17 : (σ 17) = .pointer (some ⟨w.heap.size + 1, 2, none⟩) := hd 12 (some 17) (by kernel_rfl) (by rfl)
      simp only [List.getElem_toArray, List.getElem_cons_zero, List.getElem_cons_succ, Act.put, List.setIfInBounds_toArray, List.set_cons_zero, List.set_cons_succ, e17] at hK ⊢
      obtain ⟨c0, c1, c2, c3⟩ := Rec.c4 (hb hw B1.out)
      go_simp
      exact hK.out _ _ hw (Below.refl _ _) (rfl)
    refine Inv.Steps.go (by decide) (by rfl) (fun σ wx hw hd K hK => ?_) ?_
    · obtain e16 : (σ 16) = .string ⟨⟨s2⟩⟩ := hd 11 (some 16) (by kernel_rfl) (by rfl)
      obtain e18 : (σ 18) = .string ⟨⟨s2⟩⟩ := hd 13 (some 18) (by kernel_rfl) (by rfl)
      simp only [List.getElem_toArray, List.getElem_cons_zero, List.getElem_cons_succ, Act.put, List.setIfInBounds_toArray, List.set_cons_zero, List.set_cons_succ, e16, e18] at hK ⊢
      go_simp
      go_at_call 52
      refine (compareS_same s2 wx).mono ?_
      rintro e w1 ⟨rfl, hw1⟩
      replace hw1 := hw1.symm
      subst hw1
      dsimp only
      exact hK.out _ _ hw (Below.refl _ _) (rfl)
    refine Inv.Steps.go (by decide) (by rfl) (fun σ wx hw hd K hK => ?_) ?_
    · simp only [List.getElem_toArray, List.getElem_cons_zero, List.getElem_cons_succ, Act.put, List.setIfInBounds_toArray, List.set_cons_zero, List.set_cons_succ] at hK ⊢
      go_simp
      exact hK.out _ _ hw (Below.refl _ _) (rfl)
    refine Inv.Steps.go (by decide) (by rfl) (fun σ wx hw hd K hK => ?_) ?_
    · obtain e20 : (σ 20) = .pointer (some ⟨w.heap.size, 3, none⟩) := hd 15 (some 20) (by kernel_rfl) (by rfl)
      simp only [List.getElem_toArray, List.getElem_cons_zero, List.getElem_cons_succ, Act.put, List.setIfInBounds_toArray, List.set_cons_zero, List.set_cons_succ, e20] at hK ⊢
      obtain ⟨c0, c1, c2, c3⟩ := Rec.c4 (hb hw B0.out)
      go_simp
      exact hK.out _ _ hw (Below.refl _ _) (rfl)
    refine Inv.Steps.go (by decide) (by rfl) (fun σ wx hw hd K hK => ?_) ?_
    · simp only [List.getElem_toArray, List.getElem_cons_zero, List.getElem_cons_succ, Act.put, List.setIfInBounds_toArray, List.set_cons_zero, List.set_cons_succ] at hK ⊢
      go_simp
      exact hK.out _ _ hw (Below.refl _ _) (rfl)
    refine Inv.Steps.go (by decide) (by rfl) (fun σ wx hw hd K hK => ?_) ?_
    · obtain e22 : (σ 22) = .pointer (some ⟨w.heap.size + 1, 3, none⟩) := hd 17 (some 22) (by kernel_rfl) (by rfl)
      simp only [List.getElem_toArray, List.getElem_cons_zero, List.getElem_cons_succ, Act.put, List.setIfInBounds_toArray, List.set_cons_zero, List.set_cons_succ, e22] at hK ⊢
      obtain ⟨c0, c1, c2, c3⟩ := Rec.c4 (hb hw B1.out)
      go_simp
      exact hK.out _ _ hw (Below.refl _ _) (rfl)
    refine Inv.Steps.go (by decide) (by rfl) (fun σ wx hw hd K hK => ?_) ?_
    · obtain e21 : (σ 21) = .string ⟨⟨s3⟩⟩ := hd 16 (some 21) (by kernel_rfl) (by rfl)
      obtain e23 : (σ 23) = .string ⟨⟨s3⟩⟩ := hd 18 (some 23) (by kernel_rfl) (by rfl)
      simp only [List.getElem_toArray, List.getElem_cons_zero, List.getElem_cons_succ, Act.put, List.setIfInBounds_toArray, List.set_cons_zero, List.set_cons_succ, e21, e23] at hK ⊢
      go_simp
      go_at_call 52
      refine (compareS_same s3 wx).mono ?_
      rintro e w1 ⟨rfl, hw1⟩
      replace hw1 := hw1.symm
      subst hw1
      dsimp only
      exact hK.out _ _ hw (Below.refl _ _) (rfl)
    refine Inv.Steps.go (by decide) (by rfl) (fun σ wx hw hd K hK => ?_) ?_
    · obtain e9 : (σ 9) = .int .i64 0 := hd 4 (some 9) (by kernel_rfl) (by rfl)
      obtain e14 : (σ 14) = .int .i64 0 := hd 9 (some 14) (by kernel_rfl) (by rfl)
      obtain e19 : (σ 19) = .int .i64 0 := hd 14 (some 19) (by kernel_rfl) (by rfl)
      obtain e24 : (σ 24) = .int .i64 0 := hd 19 (some 24) (by kernel_rfl) (by rfl)
      simp only [List.getElem_toArray, List.getElem_cons_zero, List.getElem_cons_succ, Act.put, List.setIfInBounds_toArray, List.set_cons_zero, List.set_cons_succ, e9, e14, e19, e24] at hK ⊢
      have hnew := heap_alloc_new wx (.cells #[.int .i64 0, .int .i64 0, .int .i64 0, .int .i64 0] 3)
      go_simp
      exact hK.out _ _ (Buf.then_ hw (new_block _)) (new_block _) (⟨wx.heap.size, rfl, hnew⟩)
    refine Inv.Steps.go (by decide) (by rfl) (fun σ wx hw hd K hK => ?_) ?_
    · obtain ⟨g, e25, h25⟩ : ∃ g, (σ 25) = .slice (some ⟨g, 0, none⟩) 4 4 ∧ wx.heap[g]? = some (.cells #[.int .i64 0, .int .i64 0, .int .i64 0, .int .i64 0] 3 (0, 0)) := hd 20 (some 25) (by kernel_rfl) (by rfl)
      simp only [List.getElem_toArray, List.getElem_cons_zero, List.getElem_cons_succ, Act.put, List.setIfInBounds_toArray, List.set_cons_zero, List.set_cons_succ, e25] at hK ⊢
      go_simp
      go_at_call 40
      refine (or4_any [0, 0, 0, 0] 4 rfl (by decide) (fun k x hx => or_at [0, 0, 0, 0] h25 k x hx)).mono ?_
      rintro e w1 ⟨rfl, hw1⟩
      replace hw1 := hw1.symm
      subst hw1
      dsimp only
      exact hK.out _ _ hw (Below.refl _ _) (rfl)
    exact Inv.Steps.nil
  · intro σ wx hw hd
    obtain e26 : (σ 26) = .int .i64 0 := hd 21 (some 26) (by rfl) (by rfl)
    simp only [e26]
    refine Inv.take (i := 22) (v := .int .i64 0) (by decide) rfl (by kernel_rfl) (by kernel_rfl) (by kernel_rfl) (fun _ _ _ h => h) (by rfl) (fun w' => ?_) ?_
    · simp only [List.getElem_toArray, List.getElem_cons_zero, List.getElem_cons_succ]
      go_simp
    try simp only [Act.put, List.setIfInBounds_toArray, List.set_cons_zero, List.set_cons_succ]
    refine Inv.done (by kernel_rfl) (NoPanic.normal ?_)
    go_wp2_with fail
    go_ret
    exact ⟨rfl, Buf.then_ W0.out hw⟩
section
variable {s0 s1 s2 s3 : List UInt8} {st fi num den er ru se : Int}
set_option maxHeartbeats 4000000 in
set_option maxRecDepth 100000 in
theorem firstTime_any (P : RP s0 s1 s2 s3 st fi num den er ru se) {b n c : Nat} {xs : List Int} {w : World} (X : RX w b n c xs) :
    Calls Try.prog 39 #[.agg #[.string ⟨s0.toArray⟩, .string ⟨s1.toArray⟩, .string ⟨s2.toArray⟩, .string ⟨s3.toArray⟩, .int .i64 st, .int .i64 fi, .int .i64 num, .int .i64 den, .int .i64 er, .int .i64 ru, .int .i64 se, .slice (some ⟨b, 0, none⟩) n c]] w fun e w' => e = .returned (.int .i64 (tm st fi num den 0)) ∧ Below w.heap.size w w' := by
  have VT := Lib.hid fun w' => timeOf_any P b n c 0 (by omega) (by omega) w'
  obtain ⟨w0, hw0e⟩ : ∃ w0, w0 = w.alloc (.cells #[.string ⟨s0.toArray⟩, .string ⟨s1.toArray⟩, .string ⟨s2.toArray⟩, .string ⟨s3.toArray⟩, .int .i64 st, .int .i64 fi, .int .i64 num, .int .i64 den, .int .i64 er, .int .i64 ru, .int .i64 se, .slice (some ⟨b, 0, none⟩) n c] 32) := ⟨_, rfl⟩
  have Y0 : Hid (Below w.heap.size w w0) := Lib.hid (by rw [hw0e]; exact new_block _)
  have KA := Lib.hid (show w0.heap[w.heap.size]? = some (.cells #[.string ⟨s0.toArray⟩, .string ⟨s1.toArray⟩, .string ⟨s2.toArray⟩, .string ⟨s3.toArray⟩, .int .i64 st, .int .i64 fi, .int .i64 num, .int .i64 den, .int .i64 er, .int .i64 ru, .int .i64 se, .slice (some ⟨b, 0, none⟩) n c] 32 (0, 0)) by rw [hw0e]; exact heap_alloc_new w _)
  have VV := Lib.hid (valid_any P (X.keep Y0.out))
  clear P X
  go_enter Try.func39, Try.ntmps39
  go_upto_region 1 with fail
  rw [← hw0e]
  clear hw0e
  obtain ⟨x0, x1, x2, x3, x4, x5, x6, x7, x8, x9, x10, x11⟩ := c12 KA.out
  go_wp2_with (first
    | (go_at_call 24; with_reducible refine (VV.out).mono ?_; rintro e w1 ⟨rfl, hc⟩; (replace KA := Lib.hid (hb hc KA.out)); (replace Y0 := Lib.hid (Buf.then_ Y0.out hc)); (clear hc x0 x1 x2 x3 x4 x5 x6 x7 x8 x9 x10 x11); (obtain ⟨x0, x1, x2, x3, x4, x5, x6, x7, x8, x9, x10, x11⟩ := c12 KA.out))
    | (go_at_call 28; with_reducible refine (VT.out _).mono ?_; rintro e w1 ⟨rfl, hc⟩; (replace KA := Lib.hid (hb hc KA.out)); (replace Y0 := Lib.hid (Buf.then_ Y0.out hc)); (clear hc x0 x1 x2 x3 x4 x5 x6 x7 x8 x9 x10 x11); (obtain ⟨x0, x1, x2, x3, x4, x5, x6, x7, x8, x9, x10, x11⟩ := c12 KA.out)))
  go_ret
  exact ⟨rfl, Y0.out⟩
end
end Rec
end Go.Proofs.Ytojfnegogdllfaa
