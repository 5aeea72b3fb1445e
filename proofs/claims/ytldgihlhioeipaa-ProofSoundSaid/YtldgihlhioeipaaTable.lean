/- The contract of the reader's Table. -/
import Derived.Test.YtldgihlhioeipaaTableA
namespace Go.Proofs.Ytldgihlhioeipaa
open Go.RowKit
namespace Trav
set_option maxHeartbeats 8000000 in
set_option maxRecDepth 100000 in
theorem table_any {W w : World} {g : Nat} {a : Option Addr} {len cap : Nat} {zs : List Int} (h : Src.Di W w g a len cap zs) :
    Calls Try.prog 18 #[.pointer (some ⟨g, 0, none⟩)] w fun e w' => TableSaid w.heap.size e w' ∧ Src.Left W w w' g a len cap zs := by
  obtain ⟨i0, hi, hz0, hz1, hz2⟩ := info_parts info1
  have HI := Lib.hid hi
  have HZ0 := Lib.hid hz0
  have HZ1 := Lib.hid hz1
  have HZ2 := Lib.hid hz2
  clear hi hz0 hz1 hz2
  have H := Lib.hid h
  have hg := h.lt
  have ne0 : w.heap.size ≠ g := by omega
  have ne1 : w.heap.size + 1 ≠ g := by omega
  have L0 := Lib.hid (((Src.Left.refl h).alloc (.cells #[.int .i64 0, .slice none 0 0, .slice none 0 0] 33)).alloc (.cells #[.int .i64 20, .int .i64 25, .int .i64 40, .int .i64 100] 3))
  have p0 := Lib.hid (blk_alloc (blk_new w (.cells #[.int .i64 0, .slice none 0 0, .slice none 0 0] 33)) (.cells #[.int .i64 20, .int .i64 25, .int .i64 40, .int .i64 100] 3))
  have I1 := Lib.hid (Src.ints_alloc (w.alloc (.cells #[.int .i64 0, .slice none 0 0, .slice none 0 0] 33)) [20, 25, 40, 100] 3)
  clear h
  go_enter Try.func18, Try.ntmps18
  go_wp2_with fail
  refine (Src.pick_any (w.heap.size + 1) [20, 25, 40, 100] 4 4 L0.out.di (by simpa using I1.out) rfl (by omega) (by omega) ne1 (by simp)).mono ?_
  rintro e w1 ⟨⟨s, rfl, hs⟩, hl⟩
  have lt1 := hl.di.lt
  replace p0 := Lib.hid (blk_alloc (hl.blk p0.out ne0) (.cells #[.int .i64 s, .slice none 0 0, .slice none 0 0] 33))
  have lt0 : w.heap.size < w1.heap.size := (Array.getElem?_eq_some_iff.1 (hl.blk (blk_alloc (blk_new w (.cells #[.int .i64 0, .slice none 0 0, .slice none 0 0] 33)) (.cells #[.int .i64 20, .int .i64 25, .int .i64 40, .int .i64 100] 3)) ne0)).1
  have p1 := Lib.hid (blk_new w1 (.cells #[.int .i64 s, .slice none 0 0, .slice none 0 0] 33))
  replace L0 := Lib.hid ((L0.out.trans hl).alloc (.cells #[.int .i64 s, .slice none 0 0, .slice none 0 0] 33))
  have neT : w1.heap.size ≠ g := by omega
  obtain ⟨s1, s2, s3, q1, q2, r1, r2⟩ := step_of hs
  have hs4 := Lib.hid s3
  clear hl I1 s3 hs
  go_wp2_with fail
  refine (Src.n_any _ L0.out.di (by omega) (by omega)).mono ?_
  rintro e w2 ⟨⟨u, rfl, u0, u1⟩, hl⟩
  replace p0 := Lib.hid (hl.blk p0.out ne0)
  replace p1 := Lib.hid (hl.blk p1.out neT)
  replace L0 := Lib.hid (L0.out.trans hl)
  clear hl
  have own0 : ∀ w', Hid (World.ownsRow w' (w1.heap.size + 1) 3 1 (.slice none 0 0) 0 (vals [])) := fun w' => Lib.hid (World.ownsRow_nil _ _ _ _)
  have f0 := Lib.hid (LF.nil u0 (by omega))
  go_wp2_with fail
  go_loopw [4, 5, 6] (fun lv hv i wr => ∃ (k : Nat) (lw hw : Int) (v1 v2 : Value) (xs ys : List Int), (k : Int) ≤ 400 / s + 3 ∧ i = .int .i64 k ∧ lv = .int .i64 lw ∧ hv = .int .i64 hw ∧ Hid (LF xs ys lw hw k) ∧ Hid (Mem W w wr g a len cap zs w.heap.size w1.heap.size s (.cells #[.int .i64 0, .slice none 0 0, .slice none 0 0] 33 (0, 0)) v1 v2 v1 k (vals xs) v2 k (vals ys))) (fun _ _ i _ => (400 / s + 3 + 1 - intOf i).toNat)
  case atStart => exact ⟨0, 0, u, .slice none 0 0, .slice none 0 0, [], [], by omega, rfl, rfl, rfl, f0, Lib.hid ⟨p0.out, p1.out, (own0 _).out, (own0 _).out, fun b hb => (by cases hb), L0.out, by omega, lt0, H.out⟩⟩
  case round =>
    clear p0 p1 own0 f0 L0
    obtain ⟨k, lw, hw, v1, v2, xs, ys, hk, rfl, rfl, rfl, f, M⟩ := hrel
    obtain ⟨x1, x2, x3, _, _⟩ := M.out.cells
    have lf1 := f.out.l0
    have lf2 := f.out.lh
    have lf3 := f.out.h9
    go_wp2_with fail
    have sz0 : (s == 0) = false := by rw [beq_eq_false_iff_ne]; omega
    have sz3 : ¬ s = 0 := by omega
    have sz4 : IntKind.i64.wrap (400 / s) = 400 / s := IntWalk.i64_in _ (by omega)
    have sz1 : Int.tdiv 400 s = 400 / s := Int.tdiv_eq_ediv_of_nonneg (by decide)
    go_region_held3 (fun w' => w'.cell? ⟨w1.heap.size, 0, none⟩ = some (.int .i64 s))
      (first
        | ((with_reducible refine hl.cell neT ?_) <;> (with_reducible assumption))
        | go_keep)
      ((first
        | (go_at_call 7; (with_reducible refine (Src.n_any _ M.out.L.di (by omega) (by omega)).mono ?_); rintro r w3 ⟨⟨v, rfl, v0, vv⟩, hl⟩; replace M := Lib.hid (M.out.left hl ne0))
        | (go_at_call 7; (with_reducible refine (Src.n_any _ M.out.L.drew.di (by omega) (by omega)).mono ?_); rintro r w3 ⟨⟨v, rfl, v0, vv⟩, hl⟩; replace M := Lib.hid (M.out.drew.left hl ne0))))
    rw [IntWalk.i64_in (400 / s + v) (by omega)]
    clear sz4 x1 x2 x3
    by_cases hlt : (k : Int) ≤ 400 / s + v
    · have d1 : decide ((k : Int) ≤ 400 / s + v) = true := by simpa using hlt
      have k9 : k ≤ 23 := by omega
      have k9' : (k : Int) ≤ 23 := by omega
      go_wp2_with fail
      go_cut [27, 32] (fun s27 s32 wx => ∃ u1 u2 : Value, s27 = u1 ∧ s32 = u2 ∧ Hid (Mem W w wx g a len cap zs w.heap.size w1.heap.size s (.cells #[.int .i64 0, .slice none 0 0, .slice none 0 0] 33 (0, 0)) u1 u2 u1 (k + 1) (vals (xs ++ [lw])) u2 (k + 1) (vals (ys ++ [hw]))))
      case first =>
        have M0 := Lib.hid M.out.drew
        refine Late.wp_region_noPanic ?_
        refine Late.wp_region_late (S := fun w' => w'.cell? ⟨w1.heap.size, 1, none⟩ = some v1 ∧ w'.cell? ⟨w1.heap.size, 2, none⟩ = some v2) (late := fun i => i == 11 || i == 12 || i == 13) (by kernel_rfl) ?_
        generalize w3.drew = wS at *
        clear M
        have hS0 : wS.cell? ⟨w1.heap.size, 1, none⟩ = some v1 ∧ wS.cell? ⟨w1.heap.size, 2, none⟩ = some v2 := ⟨M0.out.cells.2.1, M0.out.cells.2.2.1⟩
        have hv1 : Hid (∀ b, v1.ownBlock = some b → b < wS.heap.size) := Lib.hid fun b hb => (M0.out.o1.lt b hb).2
        refine Late.wpAnyL_takeD (i := 0) (d := 23) (v := .pointer (some ⟨w1.heap.size, 1, none⟩)) (by decide) rfl (by kernel_rfl) (by kernel_rfl) (by kernel_rfl) (by kernel_rfl) (by kernel_rfl) (fun _ _ _ h => h) ?_ ⟨M0.out.cells.2.1, M0.out.cells.2.2.1⟩ ?_
        · simp only [List.getElem_toArray, List.getElem_cons_zero]
          refine Or.inl ⟨by rfl, ?_⟩
          intro w' hSw
          obtain ⟨hA, hB⟩ := hSw
          go_simp
        try simp only [Act.put, List.setIfInBounds_toArray, List.set_cons_zero, List.set_cons_succ]
        refine Late.wpAnyL_takeD (i := 1) (d := 24) (v := v1) (by decide) rfl (by kernel_rfl) (by kernel_rfl) (by kernel_rfl) (by kernel_rfl) (by kernel_rfl) (fun _ _ _ h => h) ?_ ⟨M0.out.cells.2.1, M0.out.cells.2.2.1⟩ ?_
        · simp only [List.getElem_toArray, List.getElem_cons_zero, List.getElem_cons_succ]
          refine Or.inl ⟨by rfl, ?_⟩
          intro w' hSw
          obtain ⟨hA, hB⟩ := hSw
          go_simp
        try simp only [Act.put, List.setIfInBounds_toArray, List.set_cons_zero, List.set_cons_succ]
        refine Late.wpAnyL_takeD (i := 2) (d := 25) (v := .int .i64 lw) (by decide) rfl (by kernel_rfl) (by kernel_rfl) (by kernel_rfl) (by kernel_rfl) (by kernel_rfl) (fun _ _ _ h => h) ?_ ⟨M0.out.cells.2.1, M0.out.cells.2.2.1⟩ ?_
        · simp only [List.getElem_toArray, List.getElem_cons_zero, List.getElem_cons_succ]
          refine Or.inl ⟨by rfl, ?_⟩
          intro w' hSw
          obtain ⟨hA, hB⟩ := hSw
          go_simp
        try simp only [Act.put, List.setIfInBounds_toArray, List.set_cons_zero, List.set_cons_succ]
        refine Late.wpAnyL_takeD (i := 5) (d := 28) (v := .pointer (some ⟨w1.heap.size, 2, none⟩)) (by decide) rfl (by kernel_rfl) (by kernel_rfl) (by kernel_rfl) (by kernel_rfl) (by kernel_rfl) (fun _ _ _ h => h) ?_ ⟨M0.out.cells.2.1, M0.out.cells.2.2.1⟩ ?_
        · simp only [List.getElem_toArray, List.getElem_cons_zero, List.getElem_cons_succ]
          refine Or.inl ⟨by rfl, ?_⟩
          intro w' hSw
          obtain ⟨hA, hB⟩ := hSw
          go_simp
        try simp only [Act.put, List.setIfInBounds_toArray, List.set_cons_zero, List.set_cons_succ]
        refine Late.wpAnyL_takeD (i := 6) (d := 29) (v := v2) (by decide) rfl (by kernel_rfl) (by kernel_rfl) (by kernel_rfl) (by kernel_rfl) (by kernel_rfl) (fun _ _ _ h => h) ?_ ⟨M0.out.cells.2.1, M0.out.cells.2.2.1⟩ ?_
        · simp only [List.getElem_toArray, List.getElem_cons_zero, List.getElem_cons_succ]
          refine Or.inl ⟨by rfl, ?_⟩
          intro w' hSw
          obtain ⟨hA, hB⟩ := hSw
          go_simp
        try simp only [Act.put, List.setIfInBounds_toArray, List.set_cons_zero, List.set_cons_succ]
        refine Late.wpAnyL_takeD (i := 7) (d := 30) (v := .int .i64 hw) (by decide) rfl (by kernel_rfl) (by kernel_rfl) (by kernel_rfl) (by kernel_rfl) (by kernel_rfl) (fun _ _ _ h => h) ?_ ⟨M0.out.cells.2.1, M0.out.cells.2.2.1⟩ ?_
        · simp only [List.getElem_toArray, List.getElem_cons_zero, List.getElem_cons_succ]
          refine Or.inl ⟨by rfl, ?_⟩
          intro w' hSw
          obtain ⟨hA, hB⟩ := hSw
          go_simp
        try simp only [Act.put, List.setIfInBounds_toArray, List.set_cons_zero, List.set_cons_succ]
        refine Late.wpAnyL_twoD (i := 3) (k := 8) (by decide) (by decide) (by kernel_rfl) (by rfl) (by rfl) (fun K hK => ?_) (fun K hK => ?_)
        · simp only [List.getElem_toArray, List.getElem_cons_zero, List.getElem_cons_succ]
          have nb1 := Lib.hid (blk_new wS (.cells #[.int .i64 lw] 3 ))
          replace M0 := Lib.hid (M0.out.alloc (.cells #[.int .i64 lw] 3 ))
          go_simp
          refine hK.out _ _ (fun _ => ⟨M0.out.cells.2.1, M0.out.cells.2.2.1⟩) ?_
          clear hK K
          try simp only [Act.put, List.setIfInBounds_toArray, List.set_cons_zero, List.set_cons_succ]
          have hzwT : Hid ((wS.alloc (.cells #[.int .i64 lw] 3 )).heap.size = wS.heap.size + 1) := Lib.hid (by simp)
          generalize wS.alloc (.cells #[.int .i64 lw] 3 ) = wT at *
          refine Late.wpAnyL_twoD (i := 4) (k := 8) (by decide) (by decide) (by kernel_rfl) (by rfl) (by rfl) (fun K hK => ?_) (fun K hK => ?_)
          · simp only [List.getElem_toArray, List.getElem_cons_zero, List.getElem_cons_succ]
            refine app_step (.tmp 24) (.tmp 26) 22 rfl (w1.heap.size + 1) 3 3 i0 _ 8 Try.underlying22 HI.out HZ0.out HZ1.out HZ2.out rfl v1 k (vals xs) rfl M0.out.o1 _ (.int .i64 lw) nb1.out rfl rfl (by unfold maxLen; omega) (by omega) M0.out.size ?_
            intro gg1 d1' wU own hgr hat
            rw [vals_snoc] at own
            replace M0 := Lib.hid (M0.out.app1 own hgr hat)
            clear own hgr hat
            refine hK.out _ _ (fun _ => ⟨M0.out.cells.2.1, M0.out.cells.2.2.1⟩) ?_
            clear hK K
            try simp only [Act.put, List.setIfInBounds_toArray, List.set_cons_zero, List.set_cons_succ]
            refine Late.wpAnyL_takeD (i := 10) (d := 33) (v := .pointer (some ⟨w1.heap.size, 1, none⟩)) (by decide) rfl (by kernel_rfl) (by kernel_rfl) (by kernel_rfl) (by kernel_rfl) (by kernel_rfl) (fun _ _ _ h => h) ?_ ⟨M0.out.cells.2.1, M0.out.cells.2.2.1⟩ ?_
            · simp only [List.getElem_toArray, List.getElem_cons_zero, List.getElem_cons_succ]
              refine Or.inl ⟨by rfl, ?_⟩
              intro w' hSw
              obtain ⟨hA, hB⟩ := hSw
              go_simp
            try simp only [Act.put, List.setIfInBounds_toArray, List.set_cons_zero, List.set_cons_succ]
            refine Late.wpAnyL_oneD (i := 8) (by decide) (by kernel_rfl) (by rfl) (fun K hK => ?_)
            simp only [List.getElem_toArray, List.getElem_cons_zero, List.getElem_cons_succ]
            have nb2 := Lib.hid (blk_new wU (.cells #[.int .i64 hw] 3 ))
            replace M0 := Lib.hid (M0.out.alloc (.cells #[.int .i64 hw] 3 ))
            go_simp
            refine hK.out _ _ (fun _ => ⟨M0.out.cells.2.1, M0.out.cells.2.2.1⟩) ?_
            clear hK K
            try simp only [Act.put, List.setIfInBounds_toArray, List.set_cons_zero, List.set_cons_succ]
            have hzwV : Hid ((wU.alloc (.cells #[.int .i64 hw] 3 )).heap.size = wU.heap.size + 1) := Lib.hid (by simp)
            generalize wU.alloc (.cells #[.int .i64 hw] 3 ) = wV at *
            refine Late.wpAnyL_oneD (i := 9) (by decide) (by kernel_rfl) (by rfl) (fun K hK => ?_)
            simp only [List.getElem_toArray, List.getElem_cons_zero, List.getElem_cons_succ]
            refine app_step (.tmp 29) (.tmp 31) 22 rfl (w1.heap.size + 1) 3 3 i0 _ 8 Try.underlying22 HI.out HZ0.out HZ1.out HZ2.out rfl v2 k (vals ys) rfl M0.out.o2 _ (.int .i64 hw) nb2.out rfl rfl (by unfold maxLen; omega) (by omega) M0.out.size ?_
            intro gg2 d2' wX own hgr hat
            rw [vals_snoc] at own
            replace M0 := Lib.hid (M0.out.app2 own hgr hat)
            clear own hgr hat
            refine hK.out _ _ (fun _ => ⟨M0.out.cells.2.1, M0.out.cells.2.2.1⟩) ?_
            clear hK K
            try simp only [Act.put, List.setIfInBounds_toArray, List.set_cons_zero, List.set_cons_succ]
            refine Late.wpAnyL_oneD (i := 11) (by decide) (by kernel_rfl) (by rfl) (fun K hK => ?_)
            simp only [List.getElem_toArray, List.getElem_cons_zero, List.getElem_cons_succ]
            obtain ⟨c0, c1, c2, f1, f2⟩ := M0.out.cells
            go_simp
            refine hK.out _ _ (fun h => absurd h (by decide)) ?_
            clear hK K c0 c1 c2 f1 f2
            replace M0 := Lib.hid (M0.out.store1 (.slice (some ⟨gg1, 0, none⟩) (k + 1) d1'))
            try simp only [Act.put, List.setIfInBounds_toArray, List.set_cons_zero, List.set_cons_succ]
            skip
            refine Late.wpAnyL_oneD (i := 12) (by decide) (by kernel_rfl) (by rfl) (fun K hK => ?_)
            simp only [List.getElem_toArray, List.getElem_cons_zero, List.getElem_cons_succ]
            go_simp
            refine hK.out _ _ (fun h => absurd h (by decide)) ?_
            clear hK K
            try simp only [Act.put, List.setIfInBounds_toArray, List.set_cons_zero, List.set_cons_succ]
            refine Late.wpAnyL_oneD (i := 13) (by decide) (by kernel_rfl) (by rfl) (fun K hK => ?_)
            simp only [List.getElem_toArray, List.getElem_cons_zero, List.getElem_cons_succ]
            obtain ⟨c0, c1, c2, f1, f2⟩ := M0.out.cells
            go_simp
            refine hK.out _ _ (fun h => absurd h (by decide)) ?_
            clear hK K c0 c1 c2 f1 f2
            replace M0 := Lib.hid (M0.out.store2 (.slice (some ⟨gg2, 0, none⟩) (k + 1) d2'))
            try simp only [Act.put, List.setIfInBounds_toArray, List.set_cons_zero, List.set_cons_succ]
            refine Late.wpAnyL_done (by kernel_rfl) ?_ _
            refine NoPanic.normal ?_
            go_wp2_with fail
            go_meet
            exact ⟨_, _, rfl, rfl, M0⟩
          · simp only [List.getElem_toArray, List.getElem_cons_zero, List.getElem_cons_succ]
            have nb2 := Lib.hid (blk_new wT (.cells #[.int .i64 hw] 3 ))
            replace nb1 := Lib.hid (blk_alloc nb1.out (.cells #[.int .i64 hw] 3 ))
            replace M0 := Lib.hid (M0.out.alloc (.cells #[.int .i64 hw] 3 ))
            go_simp
            refine hK.out _ _ (fun _ => ⟨M0.out.cells.2.1, M0.out.cells.2.2.1⟩) ?_
            clear hK K
            try simp only [Act.put, List.setIfInBounds_toArray, List.set_cons_zero, List.set_cons_succ]
            have hzwU : Hid ((wT.alloc (.cells #[.int .i64 hw] 3 )).heap.size = wT.heap.size + 1) := Lib.hid (by simp)
            generalize wT.alloc (.cells #[.int .i64 hw] 3 ) = wU at *
            refine Late.wpAnyL_oneD (i := 4) (by decide) (by kernel_rfl) (by rfl) (fun K hK => ?_)
            simp only [List.getElem_toArray, List.getElem_cons_zero, List.getElem_cons_succ]
            refine app_step (.tmp 24) (.tmp 26) 22 rfl (w1.heap.size + 1) 3 3 i0 _ 8 Try.underlying22 HI.out HZ0.out HZ1.out HZ2.out rfl v1 k (vals xs) rfl M0.out.o1 _ (.int .i64 lw) nb1.out rfl rfl (by unfold maxLen; omega) (by omega) M0.out.size ?_
            intro gg1 d1' wV own hgr hat
            rw [vals_snoc] at own
            replace nb2 := Lib.hid ((hgr.block _ (Array.getElem?_eq_some_iff.1 nb2.out).1 (fun e => by have h1 := hv1.out _ e.symm; have h2 := hzwT.out; omega)).trans nb2.out)
            replace M0 := Lib.hid (M0.out.app1 own hgr hat)
            clear own hgr hat
            refine hK.out _ _ (fun _ => ⟨M0.out.cells.2.1, M0.out.cells.2.2.1⟩) ?_
            clear hK K
            try simp only [Act.put, List.setIfInBounds_toArray, List.set_cons_zero, List.set_cons_succ]
            refine Late.wpAnyL_takeD (i := 10) (d := 33) (v := .pointer (some ⟨w1.heap.size, 1, none⟩)) (by decide) rfl (by kernel_rfl) (by kernel_rfl) (by kernel_rfl) (by kernel_rfl) (by kernel_rfl) (fun _ _ _ h => h) ?_ ⟨M0.out.cells.2.1, M0.out.cells.2.2.1⟩ ?_
            · simp only [List.getElem_toArray, List.getElem_cons_zero, List.getElem_cons_succ]
              refine Or.inl ⟨by rfl, ?_⟩
              intro w' hSw
              obtain ⟨hA, hB⟩ := hSw
              go_simp
            try simp only [Act.put, List.setIfInBounds_toArray, List.set_cons_zero, List.set_cons_succ]
            refine Late.wpAnyL_oneD (i := 9) (by decide) (by kernel_rfl) (by rfl) (fun K hK => ?_)
            simp only [List.getElem_toArray, List.getElem_cons_zero, List.getElem_cons_succ]
            refine app_step (.tmp 29) (.tmp 31) 22 rfl (w1.heap.size + 1) 3 3 i0 _ 8 Try.underlying22 HI.out HZ0.out HZ1.out HZ2.out rfl v2 k (vals ys) rfl M0.out.o2 _ (.int .i64 hw) nb2.out rfl rfl (by unfold maxLen; omega) (by omega) M0.out.size ?_
            intro gg2 d2' wX own hgr hat
            rw [vals_snoc] at own
            replace M0 := Lib.hid (M0.out.app2 own hgr hat)
            clear own hgr hat
            refine hK.out _ _ (fun _ => ⟨M0.out.cells.2.1, M0.out.cells.2.2.1⟩) ?_
            clear hK K
            try simp only [Act.put, List.setIfInBounds_toArray, List.set_cons_zero, List.set_cons_succ]
            refine Late.wpAnyL_oneD (i := 11) (by decide) (by kernel_rfl) (by rfl) (fun K hK => ?_)
            simp only [List.getElem_toArray, List.getElem_cons_zero, List.getElem_cons_succ]
            obtain ⟨c0, c1, c2, f1, f2⟩ := M0.out.cells
            go_simp
            refine hK.out _ _ (fun h => absurd h (by decide)) ?_
            clear hK K c0 c1 c2 f1 f2
            replace M0 := Lib.hid (M0.out.store1 (.slice (some ⟨gg1, 0, none⟩) (k + 1) d1'))
            try simp only [Act.put, List.setIfInBounds_toArray, List.set_cons_zero, List.set_cons_succ]
            skip
            refine Late.wpAnyL_oneD (i := 12) (by decide) (by kernel_rfl) (by rfl) (fun K hK => ?_)
            simp only [List.getElem_toArray, List.getElem_cons_zero, List.getElem_cons_succ]
            go_simp
            refine hK.out _ _ (fun h => absurd h (by decide)) ?_
            clear hK K
            try simp only [Act.put, List.setIfInBounds_toArray, List.set_cons_zero, List.set_cons_succ]
            refine Late.wpAnyL_oneD (i := 13) (by decide) (by kernel_rfl) (by rfl) (fun K hK => ?_)
            simp only [List.getElem_toArray, List.getElem_cons_zero, List.getElem_cons_succ]
            obtain ⟨c0, c1, c2, f1, f2⟩ := M0.out.cells
            go_simp
            refine hK.out _ _ (fun h => absurd h (by decide)) ?_
            clear hK K c0 c1 c2 f1 f2
            replace M0 := Lib.hid (M0.out.store2 (.slice (some ⟨gg2, 0, none⟩) (k + 1) d2'))
            try simp only [Act.put, List.setIfInBounds_toArray, List.set_cons_zero, List.set_cons_succ]
            refine Late.wpAnyL_done (by kernel_rfl) ?_ _
            refine NoPanic.normal ?_
            go_wp2_with fail
            go_meet
            exact ⟨_, _, rfl, rfl, M0⟩
        · simp only [List.getElem_toArray, List.getElem_cons_zero, List.getElem_cons_succ]
          have nb2 := Lib.hid (blk_new wS (.cells #[.int .i64 hw] 3 ))
          replace M0 := Lib.hid (M0.out.alloc (.cells #[.int .i64 hw] 3 ))
          go_simp
          refine hK.out _ _ (fun _ => ⟨M0.out.cells.2.1, M0.out.cells.2.2.1⟩) ?_
          clear hK K
          try simp only [Act.put, List.setIfInBounds_toArray, List.set_cons_zero, List.set_cons_succ]
          have hzwT : Hid ((wS.alloc (.cells #[.int .i64 hw] 3 )).heap.size = wS.heap.size + 1) := Lib.hid (by simp)
          generalize wS.alloc (.cells #[.int .i64 hw] 3 ) = wT at *
          refine Late.wpAnyL_oneD (i := 3) (by decide) (by kernel_rfl) (by rfl) (fun K hK => ?_)
          simp only [List.getElem_toArray, List.getElem_cons_zero, List.getElem_cons_succ]
          have nb1 := Lib.hid (blk_new wT (.cells #[.int .i64 lw] 3 ))
          replace nb2 := Lib.hid (blk_alloc nb2.out (.cells #[.int .i64 lw] 3 ))
          replace M0 := Lib.hid (M0.out.alloc (.cells #[.int .i64 lw] 3 ))
          go_simp
          refine hK.out _ _ (fun _ => ⟨M0.out.cells.2.1, M0.out.cells.2.2.1⟩) ?_
          clear hK K
          try simp only [Act.put, List.setIfInBounds_toArray, List.set_cons_zero, List.set_cons_succ]
          have hzwU : Hid ((wT.alloc (.cells #[.int .i64 lw] 3 )).heap.size = wT.heap.size + 1) := Lib.hid (by simp)
          generalize wT.alloc (.cells #[.int .i64 lw] 3 ) = wU at *
          refine Late.wpAnyL_oneD (i := 4) (by decide) (by kernel_rfl) (by rfl) (fun K hK => ?_)
          simp only [List.getElem_toArray, List.getElem_cons_zero, List.getElem_cons_succ]
          refine app_step (.tmp 24) (.tmp 26) 22 rfl (w1.heap.size + 1) 3 3 i0 _ 8 Try.underlying22 HI.out HZ0.out HZ1.out HZ2.out rfl v1 k (vals xs) rfl M0.out.o1 _ (.int .i64 lw) nb1.out rfl rfl (by unfold maxLen; omega) (by omega) M0.out.size ?_
          intro gg1 d1' wV own hgr hat
          rw [vals_snoc] at own
          replace nb2 := Lib.hid ((hgr.block _ (Array.getElem?_eq_some_iff.1 nb2.out).1 (fun e => by have h1 := hv1.out _ e.symm; have h2 := hzwT.out; omega)).trans nb2.out)
          replace M0 := Lib.hid (M0.out.app1 own hgr hat)
          clear own hgr hat
          refine hK.out _ _ (fun _ => ⟨M0.out.cells.2.1, M0.out.cells.2.2.1⟩) ?_
          clear hK K
          try simp only [Act.put, List.setIfInBounds_toArray, List.set_cons_zero, List.set_cons_succ]
          refine Late.wpAnyL_takeD (i := 10) (d := 33) (v := .pointer (some ⟨w1.heap.size, 1, none⟩)) (by decide) rfl (by kernel_rfl) (by kernel_rfl) (by kernel_rfl) (by kernel_rfl) (by kernel_rfl) (fun _ _ _ h => h) ?_ ⟨M0.out.cells.2.1, M0.out.cells.2.2.1⟩ ?_
          · simp only [List.getElem_toArray, List.getElem_cons_zero, List.getElem_cons_succ]
            refine Or.inl ⟨by rfl, ?_⟩
            intro w' hSw
            obtain ⟨hA, hB⟩ := hSw
            go_simp
          try simp only [Act.put, List.setIfInBounds_toArray, List.set_cons_zero, List.set_cons_succ]
          refine Late.wpAnyL_oneD (i := 9) (by decide) (by kernel_rfl) (by rfl) (fun K hK => ?_)
          simp only [List.getElem_toArray, List.getElem_cons_zero, List.getElem_cons_succ]
          refine app_step (.tmp 29) (.tmp 31) 22 rfl (w1.heap.size + 1) 3 3 i0 _ 8 Try.underlying22 HI.out HZ0.out HZ1.out HZ2.out rfl v2 k (vals ys) rfl M0.out.o2 _ (.int .i64 hw) nb2.out rfl rfl (by unfold maxLen; omega) (by omega) M0.out.size ?_
          intro gg2 d2' wX own hgr hat
          rw [vals_snoc] at own
          replace M0 := Lib.hid (M0.out.app2 own hgr hat)
          clear own hgr hat
          refine hK.out _ _ (fun _ => ⟨M0.out.cells.2.1, M0.out.cells.2.2.1⟩) ?_
          clear hK K
          try simp only [Act.put, List.setIfInBounds_toArray, List.set_cons_zero, List.set_cons_succ]
          refine Late.wpAnyL_oneD (i := 11) (by decide) (by kernel_rfl) (by rfl) (fun K hK => ?_)
          simp only [List.getElem_toArray, List.getElem_cons_zero, List.getElem_cons_succ]
          obtain ⟨c0, c1, c2, f1, f2⟩ := M0.out.cells
          go_simp
          refine hK.out _ _ (fun h => absurd h (by decide)) ?_
          clear hK K c0 c1 c2 f1 f2
          replace M0 := Lib.hid (M0.out.store1 (.slice (some ⟨gg1, 0, none⟩) (k + 1) d1'))
          try simp only [Act.put, List.setIfInBounds_toArray, List.set_cons_zero, List.set_cons_succ]
          skip
          refine Late.wpAnyL_oneD (i := 12) (by decide) (by kernel_rfl) (by rfl) (fun K hK => ?_)
          simp only [List.getElem_toArray, List.getElem_cons_zero, List.getElem_cons_succ]
          go_simp
          refine hK.out _ _ (fun h => absurd h (by decide)) ?_
          clear hK K
          try simp only [Act.put, List.setIfInBounds_toArray, List.set_cons_zero, List.set_cons_succ]
          refine Late.wpAnyL_oneD (i := 13) (by decide) (by kernel_rfl) (by rfl) (fun K hK => ?_)
          simp only [List.getElem_toArray, List.getElem_cons_zero, List.getElem_cons_succ]
          obtain ⟨c0, c1, c2, f1, f2⟩ := M0.out.cells
          go_simp
          refine hK.out _ _ (fun h => absurd h (by decide)) ?_
          clear hK K c0 c1 c2 f1 f2
          replace M0 := Lib.hid (M0.out.store2 (.slice (some ⟨gg2, 0, none⟩) (k + 1) d2'))
          try simp only [Act.put, List.setIfInBounds_toArray, List.set_cons_zero, List.set_cons_succ]
          refine Late.wpAnyL_done (by kernel_rfl) ?_ _
          refine NoPanic.normal ?_
          go_wp2_with fail
          go_meet
          exact ⟨_, _, rfl, rfl, M0⟩
      case rest =>
        obtain ⟨n1v, n2v, rfl, rfl, M⟩ := hcut
        clear d1
        obtain ⟨x1, _, _, _, _⟩ := M.out.cells
        have hsz := M.out.size
        have neC : wc.heap.size ≠ g := by omega
        have J1 : Hid (Src.Ints (wc.drew.alloc (.cells #[.int .i64 0, .int .i64 10, .int .i64 20, .int .i64 35] 3 )) wc.heap.size [0, 10, 20, 35]) := Lib.hid (by simpa using Src.ints_alloc wc.drew [0, 10, 20, 35] 3 )
        have J2 : Hid (Src.Ints (wc.alloc (.cells #[.int .i64 0, .int .i64 10, .int .i64 20, .int .i64 35] 3 )).drew wc.heap.size [0, 10, 20, 35]) := Lib.hid (ints_kept (W := wc.alloc (.cells #[.int .i64 0, .int .i64 10, .int .i64 20, .int .i64 35] 3 )) (by simpa using Src.ints_alloc wc [0, 10, 20, 35] 3 ) rfl)
        have D1 := Lib.hid (M.out.drew.alloc (.cells #[.int .i64 0, .int .i64 10, .int .i64 20, .int .i64 35] 3 ))
        have D2 := Lib.hid ((M.out.alloc (.cells #[.int .i64 0, .int .i64 10, .int .i64 20, .int .i64 35] 3 )).drew)
        have ss1 : wc.heap.size < (wc.drew.alloc (.cells #[.int .i64 0, .int .i64 10, .int .i64 20, .int .i64 35] 3 )).heap.size := by simp
        have ss2 : wc.heap.size < (wc.alloc (.cells #[.int .i64 0, .int .i64 10, .int .i64 20, .int .i64 35] 3 )).drew.heap.size := by simp
        have sz5 : IntKind.i64.wrap (s / 4) = s / 4 := IntWalk.i64_in _ (by omega)
        have sz6 : Int.tdiv s 4 = s / 4 := Int.tdiv_eq_ediv_of_nonneg (by omega)
        go_wp2_with fail
        go_region_held3 (fun w' => w'.cell? ⟨w1.heap.size, 0, none⟩ = some (.int .i64 s))
          (first
            | ((with_reducible refine hl.cell neT ?_) <;> (with_reducible assumption))
            | go_keep)
          ((first
            | (go_at_call 19; (with_reducible refine (Src.pick_any wc.heap.size [0, 10, 20, 35] 4 4 D1.out.L.di J1.out rfl (by omega) (by omega) neC ss1).mono ?_); rintro r w4 ⟨⟨x, rfl, hx⟩, hl⟩; have M4 := Lib.hid (D1.out.left hl ne0))
            | (go_at_call 19; (with_reducible refine (Src.pick_any wc.heap.size [0, 10, 20, 35] 4 4 D2.out.L.di J2.out rfl (by omega) (by omega) neC ss2).mono ?_); rintro r w4 ⟨⟨x, rfl, hx⟩, hl⟩; have M4 := Lib.hid (D2.out.left hl ne0))))
        have hx' : 0 ≤ x ∧ x ≤ 35 := by
          simp only [List.mem_cons, List.not_mem_nil, or_false] at hx
          omega
        obtain ⟨xa, xb⟩ := hx'
        rw [IntWalk.i64_in (x + s / 4) (by omega), IntWalk.i64_in (lw + (x + s / 4)) (by omega)]
        have lwb : lw ≤ lw + (x + s / 4) := by omega
        have lwc : lw + (x + s / 4) ≤ lw + 60 := by omega
        generalize lw + (x + s / 4) = lw2 at *
        clear D1 D2 J1 J2 hl hx x1 neC hsz ss1 ss2 sz5 sz6 M
        have neC : w4.heap.size ≠ g := by have := M4.out.size; omega
        have D1 := Lib.hid (M4.out.alloc (.cells #[.int .i64 0, .int .i64 0, .int .i64 5, .int .i64 30] 3 ))
        have J1 : Hid (Src.Ints (w4.alloc (.cells #[.int .i64 0, .int .i64 0, .int .i64 5, .int .i64 30] 3 )) w4.heap.size [0, 0, 5, 30]) := Lib.hid (by simpa using Src.ints_alloc w4 [0, 0, 5, 30] 3 )
        have ss1 : w4.heap.size < (w4.alloc (.cells #[.int .i64 0, .int .i64 0, .int .i64 5, .int .i64 30] 3 )).heap.size := by simp
        have mx1 : max hw lw2 ≤ hw + 60 := by omega
        have mx2 : hw ≤ max hw lw2 := by omega
        have mx3 : lw2 ≤ max hw lw2 := by omega
        go_wp2_with fail
        refine (Src.pick_any w4.heap.size [0, 0, 5, 30] 4 4 D1.out.L.di J1.out rfl (by omega) (by omega) neC ss1).mono ?_
        rintro r w5 ⟨⟨y, rfl, hy⟩, hl⟩
        have hy' : 0 ≤ y ∧ y ≤ 30 := by
          simp only [List.mem_cons, List.not_mem_nil, or_false] at hy
          omega
        obtain ⟨ya, yb⟩ := hy'
        have M5 := Lib.hid (D1.out.left hl ne0)
        clear hl hy D1 J1 M4
        have f' := Lib.hid (LF.snoc (lw' := lw2) (hg' := max hw lw2 + y) f.out (by omega) (by omega) (by omega) (by omega))
        go_wp2
        go_roundw
        case rel => exact ⟨k + 1, lw2, _, _, _, _, _, by omega, by go_num, rfl, rfl, f', M5⟩
        case measure => simp [intOf]; omega
    · have d1 : decide ((k : Int) ≤ 400 / s + v) = false := by simpa using hlt
      have k9 : k ≤ 23 := by omega
      have k5 : 5 ≤ k := by omega
      obtain ⟨b1, c1, rfl, _, _⟩ := M.out.o1.form (by omega)
      obtain ⟨b2, c2, rfl, _, _⟩ := M.out.o2.form (by omega)
      obtain ⟨x1, x2, x3, _, _⟩ := M.out.cells
      obtain ⟨y1, y2, y3, y4, y5, y6⟩ := Geo.cells3 M.out.p0
      have tv := Lib.hid (tv_of (s := s) M.out.o1 M.out.o2 f.out (by omega) k9 (by omega) (by omega))
      have nb1 : b1 ≠ w.heap.size := by have := (M.out.o1.lt b1 rfl).1; omega
      have nb2 : b2 ≠ w.heap.size := by have := (M.out.o2.lt b2 rfl).1; omega
      have hreach : 400 ≤ s * ((k : Int) - 1) := by
        have h1 := hs4.out
        have h2 : s * (400 / s) ≤ s * ((k : Int) - 1) := Int.mul_le_mul_of_nonneg_left (by omega) (by omega)
        omega
      go_wp2
      refine bodyPost_ret (results_cell_row rfl _ _ w.heap.size _ _ _ _ rfl (Geo.st3 M.out.p0 _ _ _) rfl (by rfl) rfl) rfl ⟨⟨s, b1, b2, k, c1, c2, xs, ys, rfl, tv.out.kept ((Geo.st3_other _ nb1 _ _ _)) ((Geo.st3_other _ nb2 _ _ _)) (by simp [World.setCell]), hreach, s2, k9, by have := (M.out.o1.lt b1 rfl).1; omega, by have := (M.out.o2.lt b2 rfl).1; omega⟩, Src.Left.past H.out M.out.L (Geo.st3_below (Below.refl _ _) (Nat.le_refl _) _ _ _)⟩
end Trav
end Go.Proofs.Ytldgihlhioeipaa
