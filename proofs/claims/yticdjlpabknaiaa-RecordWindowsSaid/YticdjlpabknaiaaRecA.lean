/- Sources that the dice make. -/
import Derived.Test.YticdjlpabknaiaaDiceN
import Derived.Test.YticdjlpabknaiaaInv
import Derived.Test.YticdjlpabknaiaaRes
import Derived.Deep.DeepCutAuto
set_option linter.unusedVariables false
set_option linter.unusedSimpArgs false
namespace Go.Proofs.Yticdjlpabknaiaa
open Go.RowKit
namespace Rec
open Dice
theorem new_block {w : World} (o : Obj) : Below w.heap.size w (w.alloc o) := (Below.refl _ _).alloc (Nat.le_refl _) _
theorem hb {w w' : World} {b : Nat} {o : Obj} (h : Below w.heap.size w w') (e : w.heap[b]? = some o) : w'.heap[b]? = some o := (h.block b (Array.getElem?_eq_some_iff.1 e).1).trans e
theorem c4 {w : World} {g : Nat} {a b c d : Value} {t : TypeId} (h : w.heap[g]? = some (.cells #[a, b, c, d] t (0, 0))) : w.cell? ⟨g, 0, none⟩ = some a ∧ w.cell? ⟨g, 1, none⟩ = some b ∧ w.cell? ⟨g, 2, none⟩ = some c ∧ w.cell? ⟨g, 3, none⟩ = some d :=
  ⟨cell_of_row w g 0 _ _ _ h, cell_of_row w g 1 _ _ _ h, cell_of_row w g 2 _ _ _ h, cell_of_row w g 3 _ _ _ h⟩
theorem f4 {w : World} {g : Nat} {a b c d : Value} {t : TypeId} (h : w.heap[g]? = some (.cells #[a, b, c, d] t (0, 0))) : w.frozen? ⟨g, 0, none⟩ = false ∧ w.frozen? ⟨g, 1, none⟩ = false ∧ w.frozen? ⟨g, 2, none⟩ = false ∧ w.frozen? ⟨g, 3, none⟩ = false :=
  ⟨frozen_of_row w g 0 _ _ h, frozen_of_row w g 1 _ _ h, frozen_of_row w g 2 _ _ h, frozen_of_row w g 3 _ _ h⟩
theorem st4 {w : World} {g : Nat} {a b c d : Value} {t : TypeId} (h : w.heap[g]? = some (.cells #[a, b, c, d] t (0, 0))) (a1 b1 c1 d1 : Value) :
    ((((w.setCell ⟨g, 0, none⟩ a1).setCell ⟨g, 1, none⟩ b1).setCell ⟨g, 2, none⟩ c1).setCell ⟨g, 3, none⟩ d1).heap[g]? = some (.cells #[a1, b1, c1, d1] t (0, 0)) :=
  (heap_setCell_same _ g 3 _ _ d1 ((heap_setCell_same _ g 2 _ _ c1 ((heap_setCell_same _ g 1 _ _ b1 ((heap_setCell_same w g 0 _ _ a1 h).trans rfl)).trans rfl)).trans rfl)).trans rfl
def strs0 : List (List UInt8) := [[71, 82], [88], [55, 65]]
theorem str_at0 {w : World} {b i : Nat} (h : w.heap[b]? = some (.cells #[.string ⟨#[71, 82]⟩, .string ⟨#[88]⟩, .string ⟨#[55, 65]⟩] 9 (0, 0))) (hi : i < 3) : ∃ s : List UInt8, s ∈ strs0 ∧ w.cell? ⟨b, i, none⟩ = some (.string ⟨s.toArray⟩) := by
  have hc : i = 0 ∨ i = 1 ∨ i = 2 := by omega
  rcases hc with rfl | rfl | rfl
  · exact ⟨[71, 82], by simp [strs0], cell_of_row w b 0 _ _ _ h⟩
  · exact ⟨[88], by simp [strs0], cell_of_row w b 1 _ _ _ h⟩
  · exact ⟨[55, 65], by simp [strs0], cell_of_row w b 2 _ _ _ h⟩
def strs1 : List (List UInt8) := [[70, 85, 82], [65], [65, 66, 67, 68, 69], [70, 85]]
theorem str_at1 {w : World} {b i : Nat} (h : w.heap[b]? = some (.cells #[.string ⟨#[70, 85, 82]⟩, .string ⟨#[65]⟩, .string ⟨#[65, 66, 67, 68, 69]⟩, .string ⟨#[70, 85]⟩] 9 (0, 0))) (hi : i < 4) : ∃ s : List UInt8, s ∈ strs1 ∧ w.cell? ⟨b, i, none⟩ = some (.string ⟨s.toArray⟩) := by
  have hc : i = 0 ∨ i = 1 ∨ i = 2 ∨ i = 3 := by omega
  rcases hc with rfl | rfl | rfl | rfl
  · exact ⟨[70, 85, 82], by simp [strs1], cell_of_row w b 0 _ _ _ h⟩
  · exact ⟨[65], by simp [strs1], cell_of_row w b 1 _ _ _ h⟩
  · exact ⟨[65, 66, 67, 68, 69], by simp [strs1], cell_of_row w b 2 _ _ _ h⟩
  · exact ⟨[70, 85], by simp [strs1], cell_of_row w b 3 _ _ _ h⟩
def strs2 : List (List UInt8) := [[], [48, 48], [49, 48]]
theorem str_at2 {w : World} {b i : Nat} (h : w.heap[b]? = some (.cells #[.string ⟨#[]⟩, .string ⟨#[48, 48]⟩, .string ⟨#[49, 48]⟩] 9 (0, 0))) (hi : i < 3) : ∃ s : List UInt8, s ∈ strs2 ∧ w.cell? ⟨b, i, none⟩ = some (.string ⟨s.toArray⟩) := by
  have hc : i = 0 ∨ i = 1 ∨ i = 2 := by omega
  rcases hc with rfl | rfl | rfl
  · exact ⟨[], by simp [strs2], cell_of_row w b 0 _ _ _ h⟩
  · exact ⟨[48, 48], by simp [strs2], cell_of_row w b 1 _ _ _ h⟩
  · exact ⟨[49, 48], by simp [strs2], cell_of_row w b 2 _ _ _ h⟩
def strs3 : List (List UInt8) := [[72, 72, 90], [72, 72, 78], [66, 72, 90]]
theorem str_at3 {w : World} {b i : Nat} (h : w.heap[b]? = some (.cells #[.string ⟨#[72, 72, 90]⟩, .string ⟨#[72, 72, 78]⟩, .string ⟨#[66, 72, 90]⟩] 9 (0, 0))) (hi : i < 3) : ∃ s : List UInt8, s ∈ strs3 ∧ w.cell? ⟨b, i, none⟩ = some (.string ⟨s.toArray⟩) := by
  have hc : i = 0 ∨ i = 1 ∨ i = 2 := by omega
  rcases hc with rfl | rfl | rfl
  · exact ⟨[72, 72, 90], by simp [strs3], cell_of_row w b 0 _ _ _ h⟩
  · exact ⟨[72, 72, 78], by simp [strs3], cell_of_row w b 1 _ _ _ h⟩
  · exact ⟨[66, 72, 90], by simp [strs3], cell_of_row w b 2 _ _ _ h⟩
def Sourced (r : Ending) : Prop := ∃ s0 s1 s2 s3 : List UInt8, r = .returned (.agg #[.string ⟨s0.toArray⟩, .string ⟨s1.toArray⟩, .string ⟨s2.toArray⟩, .string ⟨s3.toArray⟩]) ∧ s0 ∈ strs0 ∧ s1 ∈ strs1 ∧ s2 ∈ strs2 ∧ s3 ∈ strs3
set_option maxHeartbeats 8000000 in
set_option maxRecDepth 100000 in
theorem source_any {W w : World} {g : Nat} {a : Option Addr} {len cap : Nat} {zs : List Int} (h : Di W w g a len cap zs) :
    Calls Try.prog 10 #[.pointer (some ⟨g, 0, none⟩)] w fun r w' => Sourced r ∧ Dice.Left W w w' g a len cap zs := by
  have H := Lib.hid h
  have hg := h.lt
  have K0 := Lib.hid (heap_alloc_new w (.cells #[.string ⟨#[]⟩, .string ⟨#[]⟩, .string ⟨#[]⟩, .string ⟨#[]⟩] 28))
  have L0 := Lib.hid ((Dice.Left.refl h).below (new_block (.cells #[.string ⟨#[]⟩, .string ⟨#[]⟩, .string ⟨#[]⟩, .string ⟨#[]⟩] 28)))
  clear h
  go_enter Try.func10, Try.ntmps10
  go_upto_region 1 with fail
  obtain ⟨w0, hw0e⟩ : ∃ w0, w0 = w.alloc (.cells #[.string ⟨#[]⟩, .string ⟨#[]⟩, .string ⟨#[]⟩, .string ⟨#[]⟩] 28) := ⟨_, rfl⟩
  rw [← hw0e] at K0 L0 ⊢
  clear hw0e
  have hw0 : Dice.Left W w w0.drew g a len cap zs ∧ w0.drew.heap[w.heap.size]? = some (.cells #[.string ⟨#[]⟩, .string ⟨#[]⟩, .string ⟨#[]⟩, .string ⟨#[]⟩] 28 (0, 0)) := ⟨L0.out.below ((Below.refl _ _).drew), K0.out⟩
  refine wp_region_noPanic ?_
  refine wp_region_any (by kernel_rfl) ?_
  refine Inv.wpAny_inv (fun k => k == 21) [3, 4, 5, 6, 7, 8, 9, 10, 11, 12, 13, 14, 15, 16, 17, 18, 19, 20, 21, 22, 23] (fun w' => Dice.Left W w w' g a len cap zs ∧ w'.heap[w.heap.size]? = some (.cells #[.string ⟨#[]⟩, .string ⟨#[]⟩, .string ⟨#[]⟩, .string ⟨#[]⟩] 28 (0, 0))) (fun _ w1 w2 => w1.grownBy w2 (some g)) (fun k => ([fun v_ w_ => ∃ b_ : Nat, v_ = .slice (some ⟨b_, 0, none⟩) 3 3 ∧ w_.heap[b_]? = some (.cells #[.string ⟨#[71, 82]⟩, .string ⟨#[88]⟩, .string ⟨#[55, 65]⟩] 9 (0, 0)) ∧ b_ ≠ g ∧ b_ ≠ w.heap.size, fun v_ w_ => v_ = .pointer (some ⟨g, 0, none⟩), fun v_ w_ => ∃ i_ : Nat, v_ = .int .i64 (i_ : Int) ∧ i_ < 3, fun v_ w_ => ∃ b_ i_ : Nat, v_ = .pointer (some ⟨b_, i_, none⟩) ∧ i_ < 3 ∧ w_.heap[b_]? = some (.cells #[.string ⟨#[71, 82]⟩, .string ⟨#[88]⟩, .string ⟨#[55, 65]⟩] 9 (0, 0)) ∧ b_ ≠ g ∧ b_ ≠ w.heap.size, fun v_ w_ => ∃ s_ : List UInt8, v_ = .string ⟨s_.toArray⟩ ∧ s_ ∈ strs0, fun v_ w_ => ∃ b_ : Nat, v_ = .slice (some ⟨b_, 0, none⟩) 4 4 ∧ w_.heap[b_]? = some (.cells #[.string ⟨#[70, 85, 82]⟩, .string ⟨#[65]⟩, .string ⟨#[65, 66, 67, 68, 69]⟩, .string ⟨#[70, 85]⟩] 9 (0, 0)) ∧ b_ ≠ g ∧ b_ ≠ w.heap.size, fun v_ w_ => v_ = .pointer (some ⟨g, 0, none⟩), fun v_ w_ => ∃ i_ : Nat, v_ = .int .i64 (i_ : Int) ∧ i_ < 4, fun v_ w_ => ∃ b_ i_ : Nat, v_ = .pointer (some ⟨b_, i_, none⟩) ∧ i_ < 4 ∧ w_.heap[b_]? = some (.cells #[.string ⟨#[70, 85, 82]⟩, .string ⟨#[65]⟩, .string ⟨#[65, 66, 67, 68, 69]⟩, .string ⟨#[70, 85]⟩] 9 (0, 0)) ∧ b_ ≠ g ∧ b_ ≠ w.heap.size, fun v_ w_ => ∃ s_ : List UInt8, v_ = .string ⟨s_.toArray⟩ ∧ s_ ∈ strs1, fun v_ w_ => ∃ b_ : Nat, v_ = .slice (some ⟨b_, 0, none⟩) 3 3 ∧ w_.heap[b_]? = some (.cells #[.string ⟨#[]⟩, .string ⟨#[48, 48]⟩, .string ⟨#[49, 48]⟩] 9 (0, 0)) ∧ b_ ≠ g ∧ b_ ≠ w.heap.size, fun v_ w_ => v_ = .pointer (some ⟨g, 0, none⟩), fun v_ w_ => ∃ i_ : Nat, v_ = .int .i64 (i_ : Int) ∧ i_ < 3, fun v_ w_ => ∃ b_ i_ : Nat, v_ = .pointer (some ⟨b_, i_, none⟩) ∧ i_ < 3 ∧ w_.heap[b_]? = some (.cells #[.string ⟨#[]⟩, .string ⟨#[48, 48]⟩, .string ⟨#[49, 48]⟩] 9 (0, 0)) ∧ b_ ≠ g ∧ b_ ≠ w.heap.size, fun v_ w_ => ∃ s_ : List UInt8, v_ = .string ⟨s_.toArray⟩ ∧ s_ ∈ strs2, fun v_ w_ => ∃ b_ : Nat, v_ = .slice (some ⟨b_, 0, none⟩) 3 3 ∧ w_.heap[b_]? = some (.cells #[.string ⟨#[72, 72, 90]⟩, .string ⟨#[72, 72, 78]⟩, .string ⟨#[66, 72, 90]⟩] 9 (0, 0)) ∧ b_ ≠ g ∧ b_ ≠ w.heap.size, fun v_ w_ => v_ = .pointer (some ⟨g, 0, none⟩), fun v_ w_ => ∃ i_ : Nat, v_ = .int .i64 (i_ : Int) ∧ i_ < 3, fun v_ w_ => ∃ b_ i_ : Nat, v_ = .pointer (some ⟨b_, i_, none⟩) ∧ i_ < 3 ∧ w_.heap[b_]? = some (.cells #[.string ⟨#[72, 72, 90]⟩, .string ⟨#[72, 72, 78]⟩, .string ⟨#[66, 72, 90]⟩] 9 (0, 0)) ∧ b_ ≠ g ∧ b_ ≠ w.heap.size, fun v_ w_ => ∃ s_ : List UInt8, v_ = .string ⟨s_.toArray⟩ ∧ s_ ∈ strs3, fun v_ w_ => ∃ s0_ s1_ s2_ s3_ : List UInt8, v_ = .agg #[.string ⟨s0_.toArray⟩, .string ⟨s1_.toArray⟩, .string ⟨s2_.toArray⟩, .string ⟨s3_.toArray⟩] ∧ s0_ ∈ strs0 ∧ s1_ ∈ strs1 ∧ s2_ ∈ strs2 ∧ s3_ ∈ strs3, fun v_ w_ => True] : List (Value → World → Prop)).getD k (fun _ _ => True)) _ (fun σ => by simp only [Inv.putAll, List.foldl_cons, List.foldl_nil, Act.put, List.setIfInBounds_toArray, List.set_cons_zero, List.set_cons_succ]; rfl) (by kernel_rfl) (by kernel_rfl) ?_ hw0 ?_ ?_ 1 #[true, true, true, true, true, true, true, true, true, true, true, true, true, true, true, true, true, true, true, true, true, false] (by kernel_rfl) (by kernel_rfl) ?_
  · intro j k v w1 w2 hjk hv hr
    rcases k with _ | k
    · exact (by obtain ⟨b, h1, h2, h3, h4⟩ := hv; exact ⟨b, h1, (hr.block b (Array.getElem?_eq_some_iff.1 h2).1 (by simpa using h3)).trans h2, h3, h4⟩)
    rcases k with _ | k
    · exact hv
    rcases k with _ | k
    · exact hv
    rcases k with _ | k
    · exact (by obtain ⟨b, i, h1, h0, h2, h3, h4⟩ := hv; exact ⟨b, i, h1, h0, (hr.block b (Array.getElem?_eq_some_iff.1 h2).1 (by simpa using h3)).trans h2, h3, h4⟩)
    rcases k with _ | k
    · exact hv
    rcases k with _ | k
    · exact (by obtain ⟨b, h1, h2, h3, h4⟩ := hv; exact ⟨b, h1, (hr.block b (Array.getElem?_eq_some_iff.1 h2).1 (by simpa using h3)).trans h2, h3, h4⟩)
    rcases k with _ | k
    · exact hv
    rcases k with _ | k
    · exact hv
    rcases k with _ | k
    · exact (by obtain ⟨b, i, h1, h0, h2, h3, h4⟩ := hv; exact ⟨b, i, h1, h0, (hr.block b (Array.getElem?_eq_some_iff.1 h2).1 (by simpa using h3)).trans h2, h3, h4⟩)
    rcases k with _ | k
    · exact hv
    rcases k with _ | k
    · exact (by obtain ⟨b, h1, h2, h3, h4⟩ := hv; exact ⟨b, h1, (hr.block b (Array.getElem?_eq_some_iff.1 h2).1 (by simpa using h3)).trans h2, h3, h4⟩)
    rcases k with _ | k
    · exact hv
    rcases k with _ | k
    · exact hv
    rcases k with _ | k
    · exact (by obtain ⟨b, i, h1, h0, h2, h3, h4⟩ := hv; exact ⟨b, i, h1, h0, (hr.block b (Array.getElem?_eq_some_iff.1 h2).1 (by simpa using h3)).trans h2, h3, h4⟩)
    rcases k with _ | k
    · exact hv
    rcases k with _ | k
    · exact (by obtain ⟨b, h1, h2, h3, h4⟩ := hv; exact ⟨b, h1, (hr.block b (Array.getElem?_eq_some_iff.1 h2).1 (by simpa using h3)).trans h2, h3, h4⟩)
    rcases k with _ | k
    · exact hv
    rcases k with _ | k
    · exact hv
    rcases k with _ | k
    · exact (by obtain ⟨b, i, h1, h0, h2, h3, h4⟩ := hv; exact ⟨b, i, h1, h0, (hr.block b (Array.getElem?_eq_some_iff.1 h2).1 (by simpa using h3)).trans h2, h3, h4⟩)
    rcases k with _ | k
    · exact hv
    rcases k with _ | k
    · exact hv
    rcases k with _ | k
    · exact hv
    · exact hv
  · intro k t hl hd
    rcases k with _ | k
    · exact absurd hl (by decide +kernel)
    rcases k with _ | k
    · exact absurd hl (by decide +kernel)
    rcases k with _ | k
    · exact absurd hl (by decide +kernel)
    rcases k with _ | k
    · exact absurd hl (by decide +kernel)
    rcases k with _ | k
    · exact absurd hl (by decide +kernel)
    rcases k with _ | k
    · exact absurd hl (by decide +kernel)
    rcases k with _ | k
    · exact absurd hl (by decide +kernel)
    rcases k with _ | k
    · exact absurd hl (by decide +kernel)
    rcases k with _ | k
    · exact absurd hl (by decide +kernel)
    rcases k with _ | k
    · exact absurd hl (by decide +kernel)
    rcases k with _ | k
    · exact absurd hl (by decide +kernel)
    rcases k with _ | k
    · exact absurd hl (by decide +kernel)
    rcases k with _ | k
    · exact absurd hl (by decide +kernel)
    rcases k with _ | k
    · exact absurd hl (by decide +kernel)
    rcases k with _ | k
    · exact absurd hl (by decide +kernel)
    rcases k with _ | k
    · exact absurd hl (by decide +kernel)
    rcases k with _ | k
    · exact absurd hl (by decide +kernel)
    rcases k with _ | k
    · exact absurd hl (by decide +kernel)
    rcases k with _ | k
    · exact absurd hl (by decide +kernel)
    rcases k with _ | k
    · exact absurd hl (by decide +kernel)
    rcases k with _ | k
    · exact absurd hl (by decide +kernel)
    rcases k with _ | k
    · exact absurd hl (by decide +kernel)
    · simp at hd
  · show Inv.Steps _ _ _ _ _ _ _ _ [0, 1, 2, 3, 4, 5, 6, 7, 8, 9, 10, 11, 12, 13, 14, 15, 16, 17, 18, 19, 20]
    refine Inv.Steps.go (by decide) (by rfl) (fun σ wx hw hd K hK => ?_) ?_
    · simp only [List.getElem_toArray, List.getElem_cons_zero, List.getElem_cons_succ, Act.put, List.setIfInBounds_toArray, List.set_cons_zero, List.set_cons_succ] at hK ⊢
      have hlt := hw.1.di.lt
      have hsz := hw.1.far.size
      go_simp
      exact hK.out _ _ ⟨hw.1.below (new_block _), hb (new_block _) hw.2⟩ (grown_of_below (new_block _)) (⟨wx.heap.size, rfl, heap_alloc_new _ _, by omega, by have := (Array.getElem?_eq_some_iff.1 hw.2).1; omega⟩)
    refine Inv.Steps.go (by decide) (by rfl) (fun σ wx hw hd K hK => ?_) ?_
    · simp only [List.getElem_toArray, List.getElem_cons_zero, List.getElem_cons_succ, Act.put, List.setIfInBounds_toArray, List.set_cons_zero, List.set_cons_succ] at hK ⊢
      go_simp
      exact hK.out _ _ hw (World.grownBy.refl _ _) (rfl)
    refine Inv.Steps.go (by decide) (by rfl) (fun σ wx hw hd K hK => ?_) ?_
    · obtain e4 : (σ 4) = .pointer (some ⟨g, 0, none⟩) := hd 1 (some 4) (by kernel_rfl) (by rfl)
      simp only [List.getElem_toArray, List.getElem_cons_zero, List.getElem_cons_succ, Act.put, List.setIfInBounds_toArray, List.set_cons_zero, List.set_cons_succ, e4] at hK ⊢
      go_simp
      go_at_call 19
      refine (next_any 3 hw.1.di (by omega) (by omega)).mono ?_
      rintro e w1 ⟨⟨iv, rfl, iv0, iv1⟩, hl⟩
      dsimp only
      exact hK.out _ _ ⟨hw.1.trans hl, (hl.far.block w.heap.size (Array.getElem?_eq_some_iff.1 hw.2).1 (by simp; omega)).trans hw.2⟩ hl.far (⟨iv.toNat, by show Value.int .i64 iv = _; rw [Int.toNat_of_nonneg iv0], by omega⟩)
    refine Inv.Steps.go (by decide) (by rfl) (fun σ wx hw hd K hK => ?_) ?_
    · obtain ⟨b3, e3, c3, n3, m3⟩ : ∃ b_ : Nat, (σ 3) = .slice (some ⟨b_, 0, none⟩) 3 3 ∧ wx.heap[b_]? = some (.cells #[.string ⟨#[71, 82]⟩, .string ⟨#[88]⟩, .string ⟨#[55, 65]⟩] 9 (0, 0)) ∧ b_ ≠ g ∧ b_ ≠ w.heap.size := hd 0 (some 3) (by kernel_rfl) (by rfl)
      obtain ⟨i5, e5, l5⟩ : ∃ i_ : Nat, (σ 5) = .int .i64 (i_ : Int) ∧ i_ < 3 := hd 2 (some 5) (by kernel_rfl) (by rfl)
      simp only [List.getElem_toArray, List.getElem_cons_zero, List.getElem_cons_succ, Act.put, List.setIfInBounds_toArray, List.set_cons_zero, List.set_cons_succ, e3, e5] at hK ⊢
      have hli : (i5 : Int) < 3 := by omega
      go_simp
      exact hK.out _ _ hw (World.grownBy.refl _ _) (⟨b3, i5, rfl, l5, c3, n3, m3⟩)
    refine Inv.Steps.go (by decide) (by rfl) (fun σ wx hw hd K hK => ?_) ?_
    · obtain ⟨b6, i6, e6, l6, c6, n6, m6⟩ : ∃ b_ i_ : Nat, (σ 6) = .pointer (some ⟨b_, i_, none⟩) ∧ i_ < 3 ∧ wx.heap[b_]? = some (.cells #[.string ⟨#[71, 82]⟩, .string ⟨#[88]⟩, .string ⟨#[55, 65]⟩] 9 (0, 0)) ∧ b_ ≠ g ∧ b_ ≠ w.heap.size := hd 3 (some 6) (by kernel_rfl) (by rfl)
      simp only [List.getElem_toArray, List.getElem_cons_zero, List.getElem_cons_succ, Act.put, List.setIfInBounds_toArray, List.set_cons_zero, List.set_cons_succ, e6] at hK ⊢
      obtain ⟨s, hs, hc⟩ := str_at0 c6 l6
      go_simp
      exact hK.out _ _ hw (World.grownBy.refl _ _) (⟨s, rfl, hs⟩)
    refine Inv.Steps.go (by decide) (by rfl) (fun σ wx hw hd K hK => ?_) ?_
    · simp only [List.getElem_toArray, List.getElem_cons_zero, List.getElem_cons_succ, Act.put, List.setIfInBounds_toArray, List.set_cons_zero, List.set_cons_succ] at hK ⊢
      have hlt := hw.1.di.lt
      have hsz := hw.1.far.size
      go_simp
      exact hK.out _ _ ⟨hw.1.below (new_block _), hb (new_block _) hw.2⟩ (grown_of_below (new_block _)) (⟨wx.heap.size, rfl, heap_alloc_new _ _, by omega, by have := (Array.getElem?_eq_some_iff.1 hw.2).1; omega⟩)
    refine Inv.Steps.go (by decide) (by rfl) (fun σ wx hw hd K hK => ?_) ?_
    · simp only [List.getElem_toArray, List.getElem_cons_zero, List.getElem_cons_succ, Act.put, List.setIfInBounds_toArray, List.set_cons_zero, List.set_cons_succ] at hK ⊢
      go_simp
      exact hK.out _ _ hw (World.grownBy.refl _ _) (rfl)
    refine Inv.Steps.go (by decide) (by rfl) (fun σ wx hw hd K hK => ?_) ?_
    · obtain e9 : (σ 9) = .pointer (some ⟨g, 0, none⟩) := hd 6 (some 9) (by kernel_rfl) (by rfl)
      simp only [List.getElem_toArray, List.getElem_cons_zero, List.getElem_cons_succ, Act.put, List.setIfInBounds_toArray, List.set_cons_zero, List.set_cons_succ, e9] at hK ⊢
      go_simp
      go_at_call 19
      refine (next_any 4 hw.1.di (by omega) (by omega)).mono ?_
      rintro e w1 ⟨⟨iv, rfl, iv0, iv1⟩, hl⟩
      dsimp only
      exact hK.out _ _ ⟨hw.1.trans hl, (hl.far.block w.heap.size (Array.getElem?_eq_some_iff.1 hw.2).1 (by simp; omega)).trans hw.2⟩ hl.far (⟨iv.toNat, by show Value.int .i64 iv = _; rw [Int.toNat_of_nonneg iv0], by omega⟩)
    refine Inv.Steps.go (by decide) (by rfl) (fun σ wx hw hd K hK => ?_) ?_
    · obtain ⟨b8, e8, c8, n8, m8⟩ : ∃ b_ : Nat, (σ 8) = .slice (some ⟨b_, 0, none⟩) 4 4 ∧ wx.heap[b_]? = some (.cells #[.string ⟨#[70, 85, 82]⟩, .string ⟨#[65]⟩, .string ⟨#[65, 66, 67, 68, 69]⟩, .string ⟨#[70, 85]⟩] 9 (0, 0)) ∧ b_ ≠ g ∧ b_ ≠ w.heap.size := hd 5 (some 8) (by kernel_rfl) (by rfl)
      obtain ⟨i10, e10, l10⟩ : ∃ i_ : Nat, (σ 10) = .int .i64 (i_ : Int) ∧ i_ < 4 := hd 7 (some 10) (by kernel_rfl) (by rfl)
      simp only [List.getElem_toArray, List.getElem_cons_zero, List.getElem_cons_succ, Act.put, List.setIfInBounds_toArray, List.set_cons_zero, List.set_cons_succ, e8, e10] at hK ⊢
      have hli : (i10 : Int) < 4 := by omega
      go_simp
      exact hK.out _ _ hw (World.grownBy.refl _ _) (⟨b8, i10, rfl, l10, c8, n8, m8⟩)
    refine Inv.Steps.go (by decide) (by rfl) (fun σ wx hw hd K hK => ?_) ?_
    · obtain ⟨b11, i11, e11, l11, c11, n11, m11⟩ : ∃ b_ i_ : Nat, (σ 11) = .pointer (some ⟨b_, i_, none⟩) ∧ i_ < 4 ∧ wx.heap[b_]? = some (.cells #[.string ⟨#[70, 85, 82]⟩, .string ⟨#[65]⟩, .string ⟨#[65, 66, 67, 68, 69]⟩, .string ⟨#[70, 85]⟩] 9 (0, 0)) ∧ b_ ≠ g ∧ b_ ≠ w.heap.size := hd 8 (some 11) (by kernel_rfl) (by rfl)
      simp only [List.getElem_toArray, List.getElem_cons_zero, List.getElem_cons_succ, Act.put, List.setIfInBounds_toArray, List.set_cons_zero, List.set_cons_succ, e11] at hK ⊢
      obtain ⟨s, hs, hc⟩ := str_at1 c11 l11
      go_simp
      exact hK.out _ _ hw (World.grownBy.refl _ _) (⟨s, rfl, hs⟩)
    refine Inv.Steps.go (by decide) (by rfl) (fun σ wx hw hd K hK => ?_) ?_
    · simp only [List.getElem_toArray, List.getElem_cons_zero, List.getElem_cons_succ, Act.put, List.setIfInBounds_toArray, List.set_cons_zero, List.set_cons_succ] at hK ⊢
      have hlt := hw.1.di.lt
      have hsz := hw.1.far.size
      go_simp
      exact hK.out _ _ ⟨hw.1.below (new_block _), hb (new_block _) hw.2⟩ (grown_of_below (new_block _)) (⟨wx.heap.size, rfl, heap_alloc_new _ _, by omega, by have := (Array.getElem?_eq_some_iff.1 hw.2).1; omega⟩)
    refine Inv.Steps.go (by decide) (by rfl) (fun σ wx hw hd K hK => ?_) ?_
    · simp only [List.getElem_toArray, List.getElem_cons_zero, List.getElem_cons_succ, Act.put, List.setIfInBounds_toArray, List.set_cons_zero, List.set_cons_succ] at hK ⊢
      go_simp
      exact hK.out _ _ hw (World.grownBy.refl _ _) (rfl)
    refine Inv.Steps.go (by decide) (by rfl) (fun σ wx hw hd K hK => ?_) ?_
    · obtain e14 : (σ 14) = .pointer (some ⟨g, 0, none⟩) := hd 11 (some 14) (by kernel_rfl) (by rfl)
      simp only [List.getElem_toArray, List.getElem_cons_zero, List.getElem_cons_succ, Act.put, List.setIfInBounds_toArray, List.set_cons_zero, List.set_cons_succ, e14] at hK ⊢
      go_simp
      go_at_call 19
      refine (next_any 3 hw.1.di (by omega) (by omega)).mono ?_
      rintro e w1 ⟨⟨iv, rfl, iv0, iv1⟩, hl⟩
      dsimp only
      exact hK.out _ _ ⟨hw.1.trans hl, (hl.far.block w.heap.size (Array.getElem?_eq_some_iff.1 hw.2).1 (by simp; omega)).trans hw.2⟩ hl.far (⟨iv.toNat, by show Value.int .i64 iv = _; rw [Int.toNat_of_nonneg iv0], by omega⟩)
    refine Inv.Steps.go (by decide) (by rfl) (fun σ wx hw hd K hK => ?_) ?_
    · obtain ⟨b13, e13, c13, n13, m13⟩ : ∃ b_ : Nat, (σ 13) = .slice (some ⟨b_, 0, none⟩) 3 3 ∧ wx.heap[b_]? = some (.cells #[.string ⟨#[]⟩, .string ⟨#[48, 48]⟩, .string ⟨#[49, 48]⟩] 9 (0, 0)) ∧ b_ ≠ g ∧ b_ ≠ w.heap.size := hd 10 (some 13) (by kernel_rfl) (by rfl)
      obtain ⟨i15, e15, l15⟩ : ∃ i_ : Nat, (σ 15) = .int .i64 (i_ : Int) ∧ i_ < 3 := hd 12 (some 15) (by kernel_rfl) (by rfl)
      simp only [List.getElem_toArray, List.getElem_cons_zero, List.getElem_cons_succ, Act.put, List.setIfInBounds_toArray, List.set_cons_zero, List.set_cons_succ, e13, e15] at hK ⊢
      have hli : (i15 : Int) < 3 := by omega
      go_simp
      exact hK.out _ _ hw (World.grownBy.refl _ _) (⟨b13, i15, rfl, l15, c13, n13, m13⟩)
    refine Inv.Steps.go (by decide) (by rfl) (fun σ wx hw hd K hK => ?_) ?_
    · obtain ⟨b16, i16, e16, l16, c16, n16, m16⟩ : ∃ b_ i_ : Nat, (σ 16) = .pointer (some ⟨b_, i_, none⟩) ∧ i_ < 3 ∧ wx.heap[b_]? = some (.cells #[.string ⟨#[]⟩, .string ⟨#[48, 48]⟩, .string ⟨#[49, 48]⟩] 9 (0, 0)) ∧ b_ ≠ g ∧ b_ ≠ w.heap.size := hd 13 (some 16) (by kernel_rfl) (by rfl)
      simp only [List.getElem_toArray, List.getElem_cons_zero, List.getElem_cons_succ, Act.put, List.setIfInBounds_toArray, List.set_cons_zero, List.set_cons_succ, e16] at hK ⊢
      obtain ⟨s, hs, hc⟩ := str_at2 c16 l16
      go_simp
      exact hK.out _ _ hw (World.grownBy.refl _ _) (⟨s, rfl, hs⟩)
    refine Inv.Steps.go (by decide) (by rfl) (fun σ wx hw hd K hK => ?_) ?_
    · simp only [List.getElem_toArray, List.getElem_cons_zero, List.getElem_cons_succ, Act.put, List.setIfInBounds_toArray, List.set_cons_zero, List.set_cons_succ] at hK ⊢
      have hlt := hw.1.di.lt
      have hsz := hw.1.far.size
      go_simp
      exact hK.out _ _ ⟨hw.1.below (new_block _), hb (new_block _) hw.2⟩ (grown_of_below (new_block _)) (⟨wx.heap.size, rfl, heap_alloc_new _ _, by omega, by have := (Array.getElem?_eq_some_iff.1 hw.2).1; omega⟩)
    refine Inv.Steps.go (by decide) (by rfl) (fun σ wx hw hd K hK => ?_) ?_
    · simp only [List.getElem_toArray, List.getElem_cons_zero, List.getElem_cons_succ, Act.put, List.setIfInBounds_toArray, List.set_cons_zero, List.set_cons_succ] at hK ⊢
      go_simp
      exact hK.out _ _ hw (World.grownBy.refl _ _) (rfl)
    refine Inv.Steps.go (by decide) (by rfl) (fun σ wx hw hd K hK => ?_) ?_
    · obtain e19 : (σ 19) = .pointer (some ⟨g, 0, none⟩) := hd 16 (some 19) (by kernel_rfl) (by rfl)
      simp only [List.getElem_toArray, List.getElem_cons_zero, List.getElem_cons_succ, Act.put, List.setIfInBounds_toArray, List.set_cons_zero, List.set_cons_succ, e19] at hK ⊢
      go_simp
      go_at_call 19
      refine (next_any 3 hw.1.di (by omega) (by omega)).mono ?_
      rintro e w1 ⟨⟨iv, rfl, iv0, iv1⟩, hl⟩
      dsimp only
      exact hK.out _ _ ⟨hw.1.trans hl, (hl.far.block w.heap.size (Array.getElem?_eq_some_iff.1 hw.2).1 (by simp; omega)).trans hw.2⟩ hl.far (⟨iv.toNat, by show Value.int .i64 iv = _; rw [Int.toNat_of_nonneg iv0], by omega⟩)
    refine Inv.Steps.go (by decide) (by rfl) (fun σ wx hw hd K hK => ?_) ?_
    · obtain ⟨b18, e18, c18, n18, m18⟩ : ∃ b_ : Nat, (σ 18) = .slice (some ⟨b_, 0, none⟩) 3 3 ∧ wx.heap[b_]? = some (.cells #[.string ⟨#[72, 72, 90]⟩, .string ⟨#[72, 72, 78]⟩, .string ⟨#[66, 72, 90]⟩] 9 (0, 0)) ∧ b_ ≠ g ∧ b_ ≠ w.heap.size := hd 15 (some 18) (by kernel_rfl) (by rfl)
      obtain ⟨i20, e20, l20⟩ : ∃ i_ : Nat, (σ 20) = .int .i64 (i_ : Int) ∧ i_ < 3 := hd 17 (some 20) (by kernel_rfl) (by rfl)
      simp only [List.getElem_toArray, List.getElem_cons_zero, List.getElem_cons_succ, Act.put, List.setIfInBounds_toArray, List.set_cons_zero, List.set_cons_succ, e18, e20] at hK ⊢
      have hli : (i20 : Int) < 3 := by omega
      go_simp
      exact hK.out _ _ hw (World.grownBy.refl _ _) (⟨b18, i20, rfl, l20, c18, n18, m18⟩)
    refine Inv.Steps.go (by decide) (by rfl) (fun σ wx hw hd K hK => ?_) ?_
    · obtain ⟨b21, i21, e21, l21, c21, n21, m21⟩ : ∃ b_ i_ : Nat, (σ 21) = .pointer (some ⟨b_, i_, none⟩) ∧ i_ < 3 ∧ wx.heap[b_]? = some (.cells #[.string ⟨#[72, 72, 90]⟩, .string ⟨#[72, 72, 78]⟩, .string ⟨#[66, 72, 90]⟩] 9 (0, 0)) ∧ b_ ≠ g ∧ b_ ≠ w.heap.size := hd 18 (some 21) (by kernel_rfl) (by rfl)
      simp only [List.getElem_toArray, List.getElem_cons_zero, List.getElem_cons_succ, Act.put, List.setIfInBounds_toArray, List.set_cons_zero, List.set_cons_succ, e21] at hK ⊢
      obtain ⟨s, hs, hc⟩ := str_at3 c21 l21
      go_simp
      exact hK.out _ _ hw (World.grownBy.refl _ _) (⟨s, rfl, hs⟩)
    refine Inv.Steps.go (by decide) (by rfl) (fun σ wx hw hd K hK => ?_) ?_
    · obtain ⟨s7, e7, p7⟩ : ∃ s_ : List UInt8, (σ 7) = .string ⟨s_.toArray⟩ ∧ s_ ∈ strs0 := hd 4 (some 7) (by kernel_rfl) (by rfl)
      obtain ⟨s12, e12, p12⟩ : ∃ s_ : List UInt8, (σ 12) = .string ⟨s_.toArray⟩ ∧ s_ ∈ strs1 := hd 9 (some 12) (by kernel_rfl) (by rfl)
      obtain ⟨s17, e17, p17⟩ : ∃ s_ : List UInt8, (σ 17) = .string ⟨s_.toArray⟩ ∧ s_ ∈ strs2 := hd 14 (some 17) (by kernel_rfl) (by rfl)
      obtain ⟨s22, e22, p22⟩ : ∃ s_ : List UInt8, (σ 22) = .string ⟨s_.toArray⟩ ∧ s_ ∈ strs3 := hd 19 (some 22) (by kernel_rfl) (by rfl)
      simp only [List.getElem_toArray, List.getElem_cons_zero, List.getElem_cons_succ, Act.put, List.setIfInBounds_toArray, List.set_cons_zero, List.set_cons_succ, e7, e12, e17, e22] at hK ⊢
      go_simp
      exact hK.out _ _ hw (World.grownBy.refl _ _) (⟨s7, s12, s17, s22, rfl, p7, p12, p17, p22⟩)
    exact Inv.Steps.nil
  · intro σ wx hw hd
    obtain ⟨t0, t1, t2, t3, e23, q0, q1, q2, q3⟩ : ∃ s0_ s1_ s2_ s3_ : List UInt8, (σ 23) = .agg #[.string ⟨s0_.toArray⟩, .string ⟨s1_.toArray⟩, .string ⟨s2_.toArray⟩, .string ⟨s3_.toArray⟩] ∧ s0_ ∈ strs0 ∧ s1_ ∈ strs1 ∧ s2_ ∈ strs2 ∧ s3_ ∈ strs3 := hd 20 (some 23) (by rfl) (by rfl)
    simp only [e23]
    obtain ⟨x0, x1, x2, x3⟩ := c4 hw.2
    obtain ⟨y0, y1, y2, y3⟩ := f4 hw.2
    refine Inv.one (i := 21) (by decide) (by kernel_rfl) (by rfl) (fun K hK => ?_)
    simp only [List.getElem_toArray, List.getElem_cons_zero, List.getElem_cons_succ, Act.put, List.setIfInBounds_toArray, List.set_cons_zero, List.set_cons_succ, e23] at hK ⊢
    go_simp
    refine hK.out _ _ (Inv.done (by kernel_rfl) (NoPanic.normal ?_))
    clear hK K hd
    have X0 := st4 hw.2 (.string ⟨t0.toArray⟩) (.string ⟨t1.toArray⟩) (.string ⟨t2.toArray⟩) (.string ⟨t3.toArray⟩)
    have XL := Dice.Left.past H.out hw.1 (((((Below.refl _ _).setCell (p := ⟨w.heap.size, 0, none⟩) (Nat.le_refl _) (.string ⟨t0.toArray⟩)).setCell (p := ⟨w.heap.size, 1, none⟩) (Nat.le_refl _) (.string ⟨t1.toArray⟩)).setCell (p := ⟨w.heap.size, 2, none⟩) (Nat.le_refl _) (.string ⟨t2.toArray⟩)).setCell (p := ⟨w.heap.size, 3, none⟩) (Nat.le_refl _) (.string ⟨t3.toArray⟩))
    go_wp2_with fail
    exact bodyPost_ret (results_cell_row rfl _ _ w.heap.size _ _ _ _ rfl X0 rfl (by rfl) rfl) rfl ⟨⟨t0, t1, t2, t3, rfl, q0, q1, q2, q3⟩, XL⟩
end Rec
end Go.Proofs.Yticdjlpabknaiaa
