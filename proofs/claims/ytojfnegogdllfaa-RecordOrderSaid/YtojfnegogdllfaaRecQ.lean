/- Package record: Better, Same in general. -/
import Derived.Test.YtojfnegogdllfaaRecO
set_option linter.unusedVariables false
set_option linter.unusedSimpArgs false
namespace Go.Proofs.Ytojfnegogdllfaa
open Go.RowKit
namespace Rec
open Dice Sc
section
variable {s0 s1 s2 s3 : List UInt8} {st fi num den er ru se st' fi' num' den' er' ru' se' : Int}
theorem cB_split (er er' ru ru' se se' : Int) (p q : RK) : cB (er, ru, se, p) (er', ru', se', q) = if firstNZ [cI er er', cI ru' ru, cI se' se] = 0 then cR p q else firstNZ [cI er er', cI ru' ru, cI se' se] := by
  simp only [cB, lexC, firstNZ]
  split <;> rename_i h1
  · split <;> rename_i h2
    · split <;> rename_i h3
      · simp
      · simp [h3]
    · simp [h2]
  · simp [h1]
set_option maxHeartbeats 4000000 in
set_option maxRecDepth 100000 in
theorem better_any (P : RP s0 s1 s2 s3 st fi num den er ru se) (P' : RP s0 s1 s2 s3 st' fi' num' den' er' ru' se') {b n c b' n' c' : Nat} {xs ys : List Int} {w : World} (X : RX w b n c xs) (X' : RX w b' n' c' ys) :
    Calls Try.prog 23 #[.agg #[.string ⟨s0.toArray⟩, .string ⟨s1.toArray⟩, .string ⟨s2.toArray⟩, .string ⟨s3.toArray⟩, .int .i64 st, .int .i64 fi, .int .i64 num, .int .i64 den, .int .i64 er, .int .i64 ru, .int .i64 se, .slice (some ⟨b, 0, none⟩) n c], .agg #[.string ⟨s0.toArray⟩, .string ⟨s1.toArray⟩, .string ⟨s2.toArray⟩, .string ⟨s3.toArray⟩, .int .i64 st', .int .i64 fi', .int .i64 num', .int .i64 den', .int .i64 er', .int .i64 ru', .int .i64 se', .slice (some ⟨b', 0, none⟩) n' c']] w fun e w' => e = .returned (.bool (cB (er, ru, se, (tm st fi num den 0, st, fi, num, den, er, ru, se, (n : Int), xs)) (er', ru', se', (tm st' fi' num' den' 0, st', fi', num', den', er', ru', se', (n' : Int), ys)) == -1)) ∧ Below w.heap.size w w' := by
  obtain ⟨w0, hw0e⟩ : ∃ w0, w0 = (w.alloc (.cells #[.string ⟨s0.toArray⟩, .string ⟨s1.toArray⟩, .string ⟨s2.toArray⟩, .string ⟨s3.toArray⟩, .int .i64 st, .int .i64 fi, .int .i64 num, .int .i64 den, .int .i64 er, .int .i64 ru, .int .i64 se, .slice (some ⟨b, 0, none⟩) n c] 32)).alloc (.cells #[.string ⟨s0.toArray⟩, .string ⟨s1.toArray⟩, .string ⟨s2.toArray⟩, .string ⟨s3.toArray⟩, .int .i64 st', .int .i64 fi', .int .i64 num', .int .i64 den', .int .i64 er', .int .i64 ru', .int .i64 se', .slice (some ⟨b', 0, none⟩) n' c'] 32) := ⟨_, rfl⟩
  have eS : (w.alloc (.cells #[.string ⟨s0.toArray⟩, .string ⟨s1.toArray⟩, .string ⟨s2.toArray⟩, .string ⟨s3.toArray⟩, .int .i64 st, .int .i64 fi, .int .i64 num, .int .i64 den, .int .i64 er, .int .i64 ru, .int .i64 se, .slice (some ⟨b, 0, none⟩) n c] 32)).heap.size = w.heap.size + 1 := by simp
  have Y0 : Hid (Below w.heap.size w w0) := Lib.hid (by rw [hw0e]; exact (new_block _).alloc (by simp) _)
  have KA := Lib.hid (show w0.heap[w.heap.size]? = some (.cells #[.string ⟨s0.toArray⟩, .string ⟨s1.toArray⟩, .string ⟨s2.toArray⟩, .string ⟨s3.toArray⟩, .int .i64 st, .int .i64 fi, .int .i64 num, .int .i64 den, .int .i64 er, .int .i64 ru, .int .i64 se, .slice (some ⟨b, 0, none⟩) n c] 32 (0, 0)) by rw [hw0e]; exact (heap_alloc_old _ _ (by simp)).trans (heap_alloc_new w _))
  have KB := Lib.hid (show w0.heap[w.heap.size + 1]? = some (.cells #[.string ⟨s0.toArray⟩, .string ⟨s1.toArray⟩, .string ⟨s2.toArray⟩, .string ⟨s3.toArray⟩, .int .i64 st', .int .i64 fi', .int .i64 num', .int .i64 den', .int .i64 er', .int .i64 ru', .int .i64 se', .slice (some ⟨b', 0, none⟩) n' c'] 32 (0, 0)) by rw [hw0e, ← eS]; exact heap_alloc_new _ _)
  have CO := Lib.hid fun (w' : World) (h' : Below w.heap.size w w') => compare_any P P' (X.keep h') (X'.keep h')
  obtain ⟨rr, hrr⟩ : ∃ rr, rr = cR (tm st fi num den 0, st, fi, num, den, er, ru, se, (n : Int), xs) (tm st' fi' num' den' 0, st', fi', num', den', er', ru', se', (n' : Int), ys) := ⟨_, rfl⟩
  rw [← hrr] at CO
  replace hrr := Lib.hid hrr
  obtain ⟨r, hr⟩ : ∃ r, r = firstNZ [cI er er', cI ru' ru, cI se' se] := ⟨_, rfl⟩
  replace hr := Lib.hid hr
  obtain ⟨bv, hbv⟩ : ∃ bv, bv = (cB (er, ru, se, (tm st fi num den 0, st, fi, num, den, er, ru, se, (n : Int), xs)) (er', ru', se', (tm st' fi' num' den' 0, st', fi', num', den', er', ru', se', (n' : Int), ys)) == -1) := ⟨_, rfl⟩
  rw [← hbv]
  replace hbv := Lib.hid hbv
  clear P P' X X'
  go_enter Try.func23, Try.ntmps23
  go_upto_region 1 with fail
  rw [← hw0e]
  clear hw0e eS
  have hw0 : Below w0.heap.size w0 w0.drew := (Below.refl _ _).drew
  refine wp_region_noPanic ?_
  refine wp_region_any (by kernel_rfl) ?_
  refine Inv.wpAny_inv (fun k => k == 17) [6, 7, 8, 9, 10, 11, 12, 13, 14, 15, 16, 17, 18, 19, 20, 21, 22] (fun w' => Below w0.heap.size w0 w') (fun _ w1 w2 => Below w1.heap.size w1 w2) (fun k => ([fun v_ w_ => v_ = .pointer (some ⟨w.heap.size, 8, none⟩), fun v_ w_ => v_ = .int .i64 er, fun v_ w_ => v_ = .pointer (some ⟨w.heap.size + 1, 8, none⟩), fun v_ w_ => v_ = .int .i64 er', fun v_ w_ => v_ = .int .i64 (cI er er'), fun v_ w_ => v_ = .pointer (some ⟨w.heap.size + 1, 9, none⟩), fun v_ w_ => v_ = .int .i64 ru', fun v_ w_ => v_ = .pointer (some ⟨w.heap.size, 9, none⟩), fun v_ w_ => v_ = .int .i64 ru, fun v_ w_ => v_ = .int .i64 (cI ru' ru), fun v_ w_ => v_ = .pointer (some ⟨w.heap.size + 1, 10, none⟩), fun v_ w_ => v_ = .int .i64 se', fun v_ w_ => v_ = .pointer (some ⟨w.heap.size, 10, none⟩), fun v_ w_ => v_ = .int .i64 se, fun v_ w_ => v_ = .int .i64 (cI se' se), fun v_ w_ => ∃ g, v_ = .slice (some ⟨g, 0, none⟩) 3 3 ∧ w_.heap[g]? = some (.cells #[.int .i64 (cI er er'), .int .i64 (cI ru' ru), .int .i64 (cI se' se)] 3 (0, 0)), fun v_ w_ => v_ = .int .i64 r, fun v_ w_ => True] : List (Value → World → Prop)).getD k (fun _ _ => True)) _ (fun σ => by simp only [Inv.putAll, List.foldl_cons, List.foldl_nil, Act.put, List.setIfInBounds_toArray, List.set_cons_zero, List.set_cons_succ]; rfl) (by kernel_rfl) (by kernel_rfl) ?_ hw0 ?_ ?_ 1 #[true, true, true, true, true, true, true, true, true, true, true, true, true, true, true, true, true, false] (by kernel_rfl) (by kernel_rfl) ?_
  · intro j k v w1 w2 hjk hv hr
    rcases k with _ | k
    · exact hv
    rcases k with _ | k
    · exact hv
    rcases k with _ | k
    · exact hv
    rcases k with _ | k
    · exact hv
    rcases k with _ | k
    · exact hv
    rcases k with _ | k
    · exact hv
    rcases k with _ | k
    · exact hv
    rcases k with _ | k
    · exact hv
    rcases k with _ | k
    · exact hv
    rcases k with _ | k
    · exact hv
    rcases k with _ | k
    · exact hv
    rcases k with _ | k
    · exact hv
    rcases k with _ | k
    · exact hv
    rcases k with _ | k
    · exact hv
    rcases k with _ | k
    · exact hv
    rcases k with _ | k
    · exact (by obtain ⟨g, h1, h2⟩ := hv; exact ⟨g, h1, hb hr h2⟩)
    rcases k with _ | k
    · exact hv
    rcases k with _ | k
    · exact hv
    · exact hv
  · intro k t hl hd
    rcases k with _ | k
    · exact absurd hl (by decide +kernel)
    rcases k with _ | k
    · exact absurd hl (by decide +kernel)
    rcases k with _ | k
    · exact absurd hl (by decide +kernel)
    rcases k with _ | k
    · exact absurd hl (by decide +kernel)
    rcases k with _ | k
    · exact absurd hl (by decide +kernel)
    rcases k with _ | k
    · exact absurd hl (by decide +kernel)
    rcases k with _ | k
    · exact absurd hl (by decide +kernel)
    rcases k with _ | k
    · exact absurd hl (by decide +kernel)
    rcases k with _ | k
    · exact absurd hl (by decide +kernel)
    rcases k with _ | k
    · exact absurd hl (by decide +kernel)
    rcases k with _ | k
    · exact absurd hl (by decide +kernel)
    rcases k with _ | k
    · exact absurd hl (by decide +kernel)
    rcases k with _ | k
    · exact absurd hl (by decide +kernel)
    rcases k with _ | k
    · exact absurd hl (by decide +kernel)
    rcases k with _ | k
    · exact absurd hl (by decide +kernel)
    rcases k with _ | k
    · exact absurd hl (by decide +kernel)
    rcases k with _ | k
    · exact absurd hl (by decide +kernel)
    rcases k with _ | k
    · exact absurd hl (by decide +kernel)
    · simp at hd
  · show Inv.Steps _ _ _ _ _ _ _ _ [0, 1, 2, 3, 4, 5, 6, 7, 8, 9, 10, 11, 12, 13, 14, 15, 16]
    refine Inv.Steps.go (by decide) (by rfl) (fun σ wx hw hd K hK => ?_) ?_
    · simp only [List.getElem_toArray, List.getElem_cons_zero, List.getElem_cons_succ, Act.put, List.setIfInBounds_toArray, List.set_cons_zero, List.set_cons_succ] at hK ⊢
      go_simp
      exact hK.out _ _ hw (Below.refl _ _) (rfl)
    refine Inv.Steps.go (by decide) (by rfl) (fun σ wx hw hd K hK => ?_) ?_
    · obtain e6 : (σ 6) = .pointer (some ⟨w.heap.size, 8, none⟩) := hd 0 (some 6) (by kernel_rfl) (by rfl)
      simp only [List.getElem_toArray, List.getElem_cons_zero, List.getElem_cons_succ, Act.put, List.setIfInBounds_toArray, List.set_cons_zero, List.set_cons_succ, e6] at hK ⊢
      obtain ⟨x0, x1, x2, x3, x4, x5, x6, x7, x8, x9, x10, x11⟩ := c12 (hb hw KA.out)
      go_simp
      exact hK.out _ _ hw (Below.refl _ _) (rfl)
    refine Inv.Steps.go (by decide) (by rfl) (fun σ wx hw hd K hK => ?_) ?_
    · simp only [List.getElem_toArray, List.getElem_cons_zero, List.getElem_cons_succ, Act.put, List.setIfInBounds_toArray, List.set_cons_zero, List.set_cons_succ] at hK ⊢
      go_simp
      exact hK.out _ _ hw (Below.refl _ _) (rfl)
    refine Inv.Steps.go (by decide) (by rfl) (fun σ wx hw hd K hK => ?_) ?_
    · obtain e8 : (σ 8) = .pointer (some ⟨w.heap.size + 1, 8, none⟩) := hd 2 (some 8) (by kernel_rfl) (by rfl)
      simp only [List.getElem_toArray, List.getElem_cons_zero, List.getElem_cons_succ, Act.put, List.setIfInBounds_toArray, List.set_cons_zero, List.set_cons_succ, e8] at hK ⊢
      obtain ⟨y0, y1, y2, y3, y4, y5, y6, y7, y8, y9, y10, y11⟩ := c12 (hb hw KB.out)
      go_simp
      exact hK.out _ _ hw (Below.refl _ _) (rfl)
    refine Inv.Steps.go (by decide) (by rfl) (fun σ wx hw hd K hK => ?_) ?_
    · obtain e7 : (σ 7) = .int .i64 er := hd 1 (some 7) (by kernel_rfl) (by rfl)
      obtain e9 : (σ 9) = .int .i64 er' := hd 3 (some 9) (by kernel_rfl) (by rfl)
      simp only [List.getElem_toArray, List.getElem_cons_zero, List.getElem_cons_succ, Act.put, List.setIfInBounds_toArray, List.set_cons_zero, List.set_cons_succ, e7, e9] at hK ⊢
      go_simp
      go_at_call 38
      refine (cmp_any er er' wx).mono ?_
      rintro e w1 ⟨rfl, hw1⟩
      replace hw1 := hw1.symm
      subst hw1
      dsimp only
      exact hK.out _ _ hw (Below.refl _ _) (rfl)
    refine Inv.Steps.go (by decide) (by rfl) (fun σ wx hw hd K hK => ?_) ?_
    · simp only [List.getElem_toArray, List.getElem_cons_zero, List.getElem_cons_succ, Act.put, List.setIfInBounds_toArray, List.set_cons_zero, List.set_cons_succ] at hK ⊢
      go_simp
      exact hK.out _ _ hw (Below.refl _ _) (rfl)
    refine Inv.Steps.go (by decide) (by rfl) (fun σ wx hw hd K hK => ?_) ?_
    · obtain e11 : (σ 11) = .pointer (some ⟨w.heap.size + 1, 9, none⟩) := hd 5 (some 11) (by kernel_rfl) (by rfl)
      simp only [List.getElem_toArray, List.getElem_cons_zero, List.getElem_cons_succ, Act.put, List.setIfInBounds_toArray, List.set_cons_zero, List.set_cons_succ, e11] at hK ⊢
      obtain ⟨y0, y1, y2, y3, y4, y5, y6, y7, y8, y9, y10, y11⟩ := c12 (hb hw KB.out)
      go_simp
      exact hK.out _ _ hw (Below.refl _ _) (rfl)
    refine Inv.Steps.go (by decide) (by rfl) (fun σ wx hw hd K hK => ?_) ?_
    · simp only [List.getElem_toArray, List.getElem_cons_zero, List.getElem_cons_succ, Act.put, List.setIfInBounds_toArray, List.set_cons_zero, List.set_cons_succ] at hK ⊢
      go_simp
      exact hK.out _ _ hw (Below.refl _ _) (rfl)
    refine Inv.Steps.go (by decide) (by rfl) (fun σ wx hw hd K hK => ?_) ?_
    · obtain e13 : (σ 13) = .pointer (some ⟨w.heap.size, 9, none⟩) := hd 7 (some 13) (by kernel_rfl) (by rfl)
      simp only [List.getElem_toArray, List.getElem_cons_zero, List.getElem_cons_succ, Act.put, List.setIfInBounds_toArray, List.set_cons_zero, List.set_cons_succ, e13] at hK ⊢
      obtain ⟨x0, x1, x2, x3, x4, x5, x6, x7, x8, x9, x10, x11⟩ := c12 (hb hw KA.out)
      go_simp
      exact hK.out _ _ hw (Below.refl _ _) (rfl)
    refine Inv.Steps.go (by decide) (by rfl) (fun σ wx hw hd K hK => ?_) ?_
    · obtain e12 : (σ 12) = .int .i64 ru' := hd 6 (some 12) (by kernel_rfl) (by rfl)
      obtain e14 : (σ 14) = .int .i64 ru := hd 8 (some 14) (by kernel_rfl) (by rfl)
      simp only [List.getElem_toArray, List.getElem_cons_zero, List.getElem_cons_succ, Act.put, List.setIfInBounds_toArray, List.set_cons_zero, List.set_cons_succ, e12, e14] at hK ⊢
      go_simp
      go_at_call 38
      refine (cmp_any ru' ru wx).mono ?_
      rintro e w1 ⟨rfl, hw1⟩
      replace hw1 := hw1.symm
      subst hw1
      dsimp only
      exact hK.out _ _ hw (Below.refl _ _) (rfl)
    refine Inv.Steps.go (by decide) (by rfl) (fun σ wx hw hd K hK => ?_) ?_
    · simp only [List.getElem_toArray, List.getElem_cons_zero, List.getElem_cons_succ, Act.put, List.setIfInBounds_toArray, List.set_cons_zero, List.set_cons_succ] at hK ⊢
      go_simp
      exact hK.out _ _ hw (Below.refl _ _) (rfl)
    refine Inv.Steps.go (by decide) (by rfl) (fun σ wx hw hd K hK => ?_) ?_
    · obtain e16 : (σ 16) = .pointer (some ⟨w.heap.size + 1, 10, none⟩) := hd 10 (some 16) (by kernel_rfl) (by rfl)
      simp only [List.getElem_toArray, List.getElem_cons_zero, List.getElem_cons_succ, Act.put, List.setIfInBounds_toArray, List.set_cons_zero, List.set_cons_succ, e16] at hK ⊢
      obtain ⟨y0, y1, y2, y3, y4, y5, y6, y7, y8, y9, y10, y11⟩ := c12 (hb hw KB.out)
      go_simp
      exact hK.out _ _ hw (Below.refl _ _) (rfl)
    refine Inv.Steps.go (by decide) (by rfl) (fun σ wx hw hd K hK => ?_) ?_
    · simp only [List.getElem_toArray, List.getElem_cons_zero, List.getElem_cons_succ, Act.put, List.setIfInBounds_toArray, List.set_cons_zero, List.set_cons_succ] at hK ⊢
      go_simp
      exact hK.out _ _ hw (Below.refl _ _) (rfl)
    refine Inv.Steps.go (by decide) (by rfl) (fun σ wx hw hd K hK => ?_) ?_
    · obtain e18 : (σ 18) = .pointer (some ⟨w.heap.size, 10, none⟩) := hd 12 (some 18) (by kernel_rfl) (by rfl)
      simp only [List.getElem_toArray, List.getElem_cons_zero, List.getElem_cons_succ, Act.put, List.setIfInBounds_toArray, List.set_cons_zero, List.set_cons_succ, e18] at hK ⊢
      obtain ⟨x0, x1, x2, x3, x4, x5, x6, x7, x8, x9, x10, x11⟩ := c12 (hb hw KA.out)
      go_simp
      exact hK.out _ _ hw (Below.refl _ _) (rfl)
    refine Inv.Steps.go (by decide) (by rfl) (fun σ wx hw hd K hK => ?_) ?_
    · obtain e17 : (σ 17) = .int .i64 se' := hd 11 (some 17) (by kernel_rfl) (by rfl)
      obtain e19 : (σ 19) = .int .i64 se := hd 13 (some 19) (by kernel_rfl) (by rfl)
      simp only [List.getElem_toArray, List.getElem_cons_zero, List.getElem_cons_succ, Act.put, List.setIfInBounds_toArray, List.set_cons_zero, List.set_cons_succ, e17, e19] at hK ⊢
      go_simp
      go_at_call 38
      refine (cmp_any se' se wx).mono ?_
      rintro e w1 ⟨rfl, hw1⟩
      replace hw1 := hw1.symm
      subst hw1
      dsimp only
      exact hK.out _ _ hw (Below.refl _ _) (rfl)
    refine Inv.Steps.go (by decide) (by rfl) (fun σ wx hw hd K hK => ?_) ?_
    · obtain e10 : (σ 10) = .int .i64 (cI er er') := hd 4 (some 10) (by kernel_rfl) (by rfl)
      obtain e15 : (σ 15) = .int .i64 (cI ru' ru) := hd 9 (some 15) (by kernel_rfl) (by rfl)
      obtain e20 : (σ 20) = .int .i64 (cI se' se) := hd 14 (some 20) (by kernel_rfl) (by rfl)
      simp only [List.getElem_toArray, List.getElem_cons_zero, List.getElem_cons_succ, Act.put, List.setIfInBounds_toArray, List.set_cons_zero, List.set_cons_succ, e10, e15, e20] at hK ⊢
      have hnew := heap_alloc_new wx (.cells #[.int .i64 (cI er er'), .int .i64 (cI ru' ru), .int .i64 (cI se' se)] 3)
      go_simp
      exact hK.out _ _ (Buf.then_ hw (new_block _)) (new_block _) (⟨wx.heap.size, rfl, hnew⟩)
    refine Inv.Steps.go (by decide) (by rfl) (fun σ wx hw hd K hK => ?_) ?_
    · obtain ⟨g, e21, h21⟩ : ∃ g, (σ 21) = .slice (some ⟨g, 0, none⟩) 3 3 ∧ wx.heap[g]? = some (.cells #[.int .i64 (cI er er'), .int .i64 (cI ru' ru), .int .i64 (cI se' se)] 3 (0, 0)) := hd 15 (some 21) (by kernel_rfl) (by rfl)
      simp only [List.getElem_toArray, List.getElem_cons_zero, List.getElem_cons_succ, Act.put, List.setIfInBounds_toArray, List.set_cons_zero, List.set_cons_succ, e21] at hK ⊢
      go_simp
      go_at_call 40
      refine (or4_any [cI er er', cI ru' ru, cI se' se] 3 rfl (by decide) (fun k x hx => or_at [cI er er', cI ru' ru, cI se' se] h21 k x hx)).mono ?_
      rintro e w1 ⟨rfl, hw1⟩
      replace hw1 := hw1.symm
      subst hw1
      rw [← hr.out]
      dsimp only
      exact hK.out _ _ hw (Below.refl _ _) (rfl)
    exact Inv.Steps.nil
  · intro σ wx hw hd
    obtain e22 : (σ 22) = .int .i64 r := hd 16 (some 22) (by rfl) (by rfl)
    simp only [e22]
    refine Inv.take (i := 17) (v := .int .i64 r) (by decide) rfl (by kernel_rfl) (by kernel_rfl) (by kernel_rfl) (fun _ _ _ h => h) (by rfl) (fun w' => ?_) ?_
    · simp only [List.getElem_toArray, List.getElem_cons_zero, List.getElem_cons_succ]
      go_simp
    try simp only [Act.put, List.setIfInBounds_toArray, List.set_cons_zero, List.set_cons_succ]
    refine Inv.done (by kernel_rfl) (NoPanic.normal ?_)
    replace KA := Lib.hid (hb hw KA.out)
    replace KB := Lib.hid (hb hw KB.out)
    have YZ := Lib.hid (Buf.then_ Y0.out hw)
    clear hd hw e22
    by_cases h0 : r = 0
    · subst h0
      obtain ⟨x0, x1, x2, x3, x4, x5, x6, x7, x8, x9, x10, x11⟩ := c12 KA.out
      obtain ⟨y0, y1, y2, y3, y4, y5, y6, y7, y8, y9, y10, y11⟩ := c12 KB.out
      have hq : bv = (rr == -1) := by rw [hbv.out, cB_split, if_pos hr.out.symm, hrr.out]
      subst hq
      go_wp2_with (go_at_call 22; with_reducible refine (CO.out _ YZ.out).mono ?_; rintro e w9 ⟨rfl, hc⟩)
      go_ret
      exact ⟨rfl, Buf.then_ YZ.out hc⟩
    · have e0 : (r != 0) = true := by simp [h0]
      have hq : bv = decide (r < 0) := by
        have hs := cB_small (er, ru, se, (tm st fi num den 0, st, fi, num, den, er, ru, se, (n : Int), xs)) (er', ru', se', (tm st' fi' num' den' 0, st', fi', num', den', er', ru', se', (n' : Int), ys))
        rw [cB_split, if_neg (by rw [← hr.out]; exact h0), ← hr.out] at hs
        rw [hbv.out, cB_split, if_neg (by rw [← hr.out]; exact h0), ← hr.out]
        rcases hs with h | h | h <;> rw [h] <;> rfl
      subst hq
      go_wp2_with fail
      go_ret
      exact ⟨rfl, YZ.out⟩
end
end Rec
end Go.Proofs.Ytojfnegogdllfaa
