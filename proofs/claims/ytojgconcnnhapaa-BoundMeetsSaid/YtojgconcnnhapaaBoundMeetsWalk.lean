/- The walk of BoundMeets. -/
import Derived.Test.YtojgconcnnhapaaBoundC
import Derived.Test.YtojgconcnnhapaaBoundM
import Derived.Test.YtojgconcnnhapaaPlace
set_option linter.unusedVariables false
namespace Go.Proofs.Ytojgconcnnhapaa
open Go.RowKit
namespace Laws
theorem row_below {k : IntKind} {w w' : World} {a : Option Addr} {len cap : Nat} {zs : List Int} (h : Buf.IsRow k w a len cap zs) (hb : Below w.heap.size w w') : Buf.IsRow k w' a len cap zs := by
  rcases h with h | ⟨x, rfl, h1, h2, h3, h4, h5⟩
  · exact .inl h
  · exact .inr ⟨x, rfl, h1, h2, h3, fun i hi => Geo.keepc hb (h4 i hi), h5⟩
theorem z2o {w : World} {g b : Nat} {x y : Value} {t : TypeId} (hne : g ≠ b) (h : w.heap[g]? = some (.cells #[x, y] t (0, 0))) (u v : Value) : ((w.setCell ⟨b, 0, none⟩ u).setCell ⟨b, 1, none⟩ v).heap[g]? = some (.cells #[x, y] t (0, 0)) := by
  rw [Below.heap_setCell _ _ _ g hne, Below.heap_setCell _ _ _ g hne]; exact h
set_option maxHeartbeats 8000000 in
set_option maxRecDepth 100000 in
theorem boundMeets_walk (x0 y0 : Int) (x1 y1 : Int) (a2 : Int) (a3 : Option Addr) (len3 cap3 : Nat) (z3 : List Int) (w : World) (p0 : (Lit.int .i64 x0).wf = true) (q0 : (Lit.int .i64 y0).wf = true) (p1 : (Lit.int .i64 x1).wf = true) (q1 : (Lit.int .i64 y1).wf = true) (w2 : (Lit.int .i64 a2).wf = true) (w3 : Buf.IsRow .i64 w a3 len3 cap3 z3) :
    Calls Try.prog 3 #[.agg #[.int .i64 x0, .int .i64 y0], .agg #[.int .i64 x1, .int .i64 y1], .int .i64 a2, .slice a3 len3 cap3] w fun e w' => e = .returned (.bool true) ∧ Below w.heap.size w w' := by
  have h1 := Lib.hid (Geo.blk_alloc (Geo.blk_new w (.cells #[.int .i64 x0, .int .i64 y0] 23)) (.cells #[.int .i64 x1, .int .i64 y1] 23))
  have h2 := Lib.hid (Geo.blk_new1 w (.cells #[.int .i64 x0, .int .i64 y0] 23) (.cells #[.int .i64 x1, .int .i64 y1] 23))
  have hA : Hid (Below w.heap.size w ((w.alloc (.cells #[.int .i64 x0, .int .i64 y0] 23)).alloc (.cells #[.int .i64 x1, .int .i64 y1] 23))) := Lib.hid (Buf.then_ (Geo.new_block _) (Geo.new_block _))
  have hrow := Lib.hid (row_below w3 hA.out)
  clear p0 q0 p1 q1 w2 w3
  go_enter Try.func3, Try.ntmps3
  go_wp2_with fail
  obtain ⟨W2, hW2⟩ : ∃ W2, W2 = (w.alloc (.cells #[.int .i64 x0, .int .i64 y0] 23)).alloc (.cells #[.int .i64 x1, .int .i64 y1] 23) := ⟨_, rfl⟩
  rw [← hW2] at h1 h2 hA hrow ⊢
  clear hW2
  have sz : w.heap.size + 1 < W2.heap.size := (Array.getElem?_eq_some_iff.1 h2.out).1
  refine (Src.new_any a3 len3 cap3 z3 _ hrow.out).mono ?_
  rintro e0 wA ⟨rfl, m, hd⟩
  have L0 := Lib.hid (Src.Left.refl hd)
  replace h1 := Lib.hid (Geo.blk_b hd.bel h1.out)
  replace h2 := Lib.hid (Geo.blk_b hd.bel h2.out)
  have ne1 : w.heap.size ≠ W2.heap.size := by omega
  have ne2 : w.heap.size + 1 ≠ W2.heap.size := by omega
  clear hd hrow
  go_wp2_with fail
  refine (Src.n_any _ L0.out.di (by omega) (by omega)).mono ?_
  rintro e0 w4 ⟨⟨x, rfl, xa, xb⟩, hl⟩
  replace h1 := Lib.hid (hl.blk h1.out ne1)
  replace h2 := Lib.hid (hl.blk h2.out ne2)
  replace L0 := Lib.hid (L0.out.trans hl)
  clear hl
  rcases (by omega : x = 0 ∨ x = 1) with rfl | rfl
  · clear xa xb
    go_wp2_with fail
    refine (Src.n_any _ L0.out.di (by omega) (by omega)).mono ?_
    rintro e0 v0 ⟨⟨ua, rfl, ua0, ua1⟩, hl⟩
    replace h1 := Lib.hid (hl.blk h1.out ne1)
    replace h2 := Lib.hid (hl.blk h2.out ne2)
    replace L0 := Lib.hid (L0.out.trans hl)
    clear hl
    go_wp2_with fail
    refine (Src.n_any _ L0.out.di (by omega) (by omega)).mono ?_
    rintro e0 v1 ⟨⟨ub, rfl, ub0, ub1⟩, hl⟩
    replace h1 := Lib.hid (hl.blk h1.out ne1)
    replace h2 := Lib.hid (hl.blk h2.out ne2)
    replace L0 := Lib.hid (L0.out.trans hl)
    clear hl
    go_wp2_with fail
    refine (Src.n_any _ L0.out.di (by omega) (by omega)).mono ?_
    rintro e0 v2 ⟨⟨uc, rfl, uc0, uc1⟩, hl⟩
    replace h1 := Lib.hid (hl.blk h1.out ne1)
    replace h2 := Lib.hid (hl.blk h2.out ne2)
    replace L0 := Lib.hid (L0.out.trans hl)
    clear hl
    go_wp2_with fail
    refine (Src.n_any _ L0.out.di (by omega) (by omega)).mono ?_
    rintro e0 v3 ⟨⟨ud, rfl, ud0, ud1⟩, hl⟩
    replace h1 := Lib.hid (hl.blk h1.out ne1)
    replace h2 := Lib.hid (hl.blk h2.out ne2)
    replace L0 := Lib.hid (L0.out.trans hl)
    clear hl
    go_wp2_with fail
    refine (Src.n_any _ L0.out.di (by omega) (by omega)).mono ?_
    rintro e0 v4 ⟨⟨un, rfl, un0, un1⟩, hl⟩
    replace h1 := Lib.hid (hl.blk h1.out ne1)
    replace h2 := Lib.hid (hl.blk h2.out ne2)
    replace L0 := Lib.hid (L0.out.trans hl)
    clear hl
    obtain ⟨k1, k2⟩ := Bound.zc h1.out
    obtain ⟨k3, k4⟩ := Bound.zc h2.out
    have f1 := frozen_of_row v4 w.heap.size 0 _ _ h1.out
    have f2 := frozen_of_row v4 w.heap.size 1 _ _ h1.out
    have f3 := frozen_of_row v4 (w.heap.size + 1) 0 _ _ h2.out
    have f4 := frozen_of_row v4 (w.heap.size + 1) 1 _ _ h2.out
    replace hA := Lib.hid (((((Buf.then_ hA.out L0.out.di.bel).setCell (p := ⟨w.heap.size, 0, none⟩) (by simp) (.int .i64 ua)).setCell (p := ⟨w.heap.size, 1, none⟩) (by simp) (.int .i64 ub)).setCell (p := ⟨w.heap.size + 1, 0, none⟩) (by simp) (.int .i64 uc)).setCell (p := ⟨w.heap.size + 1, 1, none⟩) (by simp) (.int .i64 ud))
    replace h1 := Lib.hid (z2o (b := w.heap.size + 1) (by omega) (Bound.z2 h1.out (.int .i64 ua) (.int .i64 ub)) (.int .i64 uc) (.int .i64 ud))
    replace h2 := Lib.hid (Bound.z2 (z2o (b := w.heap.size) (by omega) h2.out (.int .i64 ua) (.int .i64 ub)) (.int .i64 uc) (.int .i64 ud))
    clear L0
    go_wp2_with fail
    generalize (((v4.setCell ⟨w.heap.size, 0, none⟩ (.int .i64 ua)).setCell ⟨w.heap.size, 1, none⟩ (.int .i64 ub)).setCell ⟨w.heap.size + 1, 0, none⟩ (.int .i64 uc)).setCell ⟨w.heap.size + 1, 1, none⟩ (.int .i64 ud) = w5 at *
    clear k1 k2 k3 k4 f1 f2 f3 f4
    obtain ⟨k1, k2⟩ := Bound.zc h1.out
    obtain ⟨k3, k4⟩ := Bound.zc h2.out
    go_wp2_with fail
    refine (Bound.meets_any ua ub uc ud _).mono ?_
    rintro e0 w6 ⟨hm, hc⟩
    replace h1 := Lib.hid (Geo.blk_b hc h1.out)
    replace h2 := Lib.hid (Geo.blk_b hc h2.out)
    replace hA := Lib.hid (Buf.then_ hA.out hc)
    clear hc k1 k2 k3 k4
    obtain ⟨k1, k2⟩ := Bound.zc h1.out
    obtain ⟨k3, k4⟩ := Bound.zc h2.out
    have n1 := World.new_ne w6 _ k1
    have n2 := World.new_ne w6 _ k3
    rcases hm with ⟨hm, rfl⟩ | ⟨hm, rfl⟩
    · replace hA := Lib.hid (Buf.then_ hA.out (Geo.new_block (.cells #[.int .i64 (max ua uc), .int .i64 (min ub ud)] 23)))
      obtain ⟨k5, k6⟩ := Bound.zc (Geo.blk_alloc h1.out (.cells #[.int .i64 (max ua uc), .int .i64 (min ub ud)] 23))
      obtain ⟨k7, k8⟩ := Bound.zc (Geo.blk_alloc h2.out (.cells #[.int .i64 (max ua uc), .int .i64 (min ub ud)] 23))
      clear h1 h2
      have q1 : ua ≤ max ua uc := by omega
      have q2 : uc ≤ max ua uc := by omega
      have q3 : min ub ud ≤ ub := by omega
      have q4 : min ub ud ≤ ud := by omega
      have q5 : ¬ (max ua uc > ua ∧ max ua uc > uc) := by omega
      have q6 : ¬ (min ub ud < ub ∧ min ub ud < ud) := by omega
      generalize max ua uc = M at *
      generalize min ub ud = N at *
      replace q5 := Lib.hid q5
      replace q6 := Lib.hid q6
      by_cases c1 : M ≤ un
      · by_cases c2 : un ≤ N
        · clear q5 q6
          have g_uaun : ua ≤ un := by omega
          have g_ucun : uc ≤ un := by omega
          have g_unub : un ≤ ub := by omega
          have g_unud : un ≤ ud := by omega
          clear q1 q2 q3 q4 hm
          go_wp2_with ((go_at_call 10; refine (Bound.awake_any _).mono ?_; rintro e0 w9 ⟨rfl, hc⟩; replace hA := Lib.hid (Buf.then_ hA.out hc); clear hc))
          go_ret
          first | exact ⟨rfl, hA.out⟩ | (refine ⟨?_, hA.out⟩; simp; omega)
        · by_cases c3 : un ≤ ub
          · have := q6.out
            clear q5 q6
            have g_uaun : ua ≤ un := by omega
            have g_ucun : uc ≤ un := by omega
            have l_udun : ¬ (un ≤ ud) := by omega
            have l_Nun : ¬ (un ≤ N) := by omega
            clear this
            clear q1 q2 q3 q4 hm
            go_wp2_with ((go_at_call 10; refine (Bound.awake_any _).mono ?_; rintro e0 w9 ⟨rfl, hc⟩; replace hA := Lib.hid (Buf.then_ hA.out hc); clear hc))
            go_ret
            first | exact ⟨rfl, hA.out⟩ | (refine ⟨?_, hA.out⟩; simp; omega)
          · clear q5 q6
            have g_uaun : ua ≤ un := by omega
            have g_ucun : uc ≤ un := by omega
            have l_ubun : ¬ (un ≤ ub) := by omega
            have l_Nun : ¬ (un ≤ N) := by omega
            clear q1 q2 q3 q4 hm
            go_wp2_with ((go_at_call 10; refine (Bound.awake_any _).mono ?_; rintro e0 w9 ⟨rfl, hc⟩; replace hA := Lib.hid (Buf.then_ hA.out hc); clear hc))
            go_ret
            first | exact ⟨rfl, hA.out⟩ | (refine ⟨?_, hA.out⟩; simp; omega)
      · by_cases c2 : ua ≤ un
        · by_cases c3 : un ≤ ub
          · have := q5.out
            clear q5 q6
            have l_unuc : ¬ (uc ≤ un) := by omega
            have l_unM : ¬ (M ≤ un) := by omega
            clear this
            clear q1 q2 q3 q4 hm
            go_wp2_with ((go_at_call 10; refine (Bound.awake_any _).mono ?_; rintro e0 w9 ⟨rfl, hc⟩; replace hA := Lib.hid (Buf.then_ hA.out hc); clear hc))
            go_ret
            first | exact ⟨rfl, hA.out⟩ | (refine ⟨?_, hA.out⟩; simp; omega)
          · clear q5 q6
            have l_ubun : ¬ (un ≤ ub) := by omega
            have l_unM : ¬ (M ≤ un) := by omega
            clear q1 q2 q3 q4 hm
            go_wp2_with ((go_at_call 10; refine (Bound.awake_any _).mono ?_; rintro e0 w9 ⟨rfl, hc⟩; replace hA := Lib.hid (Buf.then_ hA.out hc); clear hc))
            go_ret
            first | exact ⟨rfl, hA.out⟩ | (refine ⟨?_, hA.out⟩; simp; omega)
        · clear q5 q6
          have l_unua : ¬ (ua ≤ un) := by omega
          have l_unM : ¬ (M ≤ un) := by omega
          clear q1 q2 q3 q4 hm
          go_wp2_with ((go_at_call 10; refine (Bound.awake_any _).mono ?_; rintro e0 w9 ⟨rfl, hc⟩; replace hA := Lib.hid (Buf.then_ hA.out hc); clear hc))
          go_ret
          first | exact ⟨rfl, hA.out⟩ | (refine ⟨?_, hA.out⟩; simp; omega)
    · replace hA := Lib.hid (Buf.then_ hA.out (Geo.new_block (.cells #[.int .i64 0, .int .i64 0] 23)))
      obtain ⟨k5, k6⟩ := Bound.zc (Geo.blk_alloc h1.out (.cells #[.int .i64 0, .int .i64 0] 23))
      obtain ⟨k7, k8⟩ := Bound.zc (Geo.blk_alloc h2.out (.cells #[.int .i64 0, .int .i64 0] 23))
      clear h1 h2
      by_cases c1 : ua ≤ un
      · by_cases c2 : un ≤ ub
        · by_cases c3 : uc ≤ un
          · have l_udun : ¬ (un ≤ ud) := by omega
            clear hm
            go_wp2_with ((go_at_call 10; refine (Bound.awake_any _).mono ?_; rintro e0 w9 ⟨rfl, hc⟩; replace hA := Lib.hid (Buf.then_ hA.out hc); clear hc))
            go_ret
            first | exact ⟨rfl, hA.out⟩ | (refine ⟨?_, hA.out⟩; simp; omega)
          · have l_unuc : ¬ (uc ≤ un) := by omega
            clear hm
            go_wp2_with ((go_at_call 10; refine (Bound.awake_any _).mono ?_; rintro e0 w9 ⟨rfl, hc⟩; replace hA := Lib.hid (Buf.then_ hA.out hc); clear hc))
            go_ret
            first | exact ⟨rfl, hA.out⟩ | (refine ⟨?_, hA.out⟩; simp; omega)
        · have l_ubun : ¬ (un ≤ ub) := by omega
          clear hm
          go_wp2_with ((go_at_call 10; refine (Bound.awake_any _).mono ?_; rintro e0 w9 ⟨rfl, hc⟩; replace hA := Lib.hid (Buf.then_ hA.out hc); clear hc))
          go_ret
          first | exact ⟨rfl, hA.out⟩ | (refine ⟨?_, hA.out⟩; simp; omega)
      · have l_unua : ¬ (ua ≤ un) := by omega
        clear hm
        go_wp2_with ((go_at_call 10; refine (Bound.awake_any _).mono ?_; rintro e0 w9 ⟨rfl, hc⟩; replace hA := Lib.hid (Buf.then_ hA.out hc); clear hc))
        go_ret
        first | exact ⟨rfl, hA.out⟩ | (refine ⟨?_, hA.out⟩; simp; omega)
  · clear xa xb
    replace hA := Lib.hid (Buf.then_ hA.out L0.out.di.bel)
    clear L0
    obtain ⟨k1, k2⟩ := Bound.zc h1.out
    obtain ⟨k3, k4⟩ := Bound.zc h2.out
    go_wp2_with fail
    refine (Bound.meets_any x0 y0 x1 y1 _).mono ?_
    rintro e0 w6 ⟨hm, hc⟩
    replace h1 := Lib.hid (Geo.blk_b hc h1.out)
    replace h2 := Lib.hid (Geo.blk_b hc h2.out)
    replace hA := Lib.hid (Buf.then_ hA.out hc)
    clear hc k1 k2 k3 k4
    obtain ⟨k1, k2⟩ := Bound.zc h1.out
    obtain ⟨k3, k4⟩ := Bound.zc h2.out
    have n1 := World.new_ne w6 _ k1
    have n2 := World.new_ne w6 _ k3
    rcases hm with ⟨hm, rfl⟩ | ⟨hm, rfl⟩
    · replace hA := Lib.hid (Buf.then_ hA.out (Geo.new_block (.cells #[.int .i64 (max x0 x1), .int .i64 (min y0 y1)] 23)))
      obtain ⟨k5, k6⟩ := Bound.zc (Geo.blk_alloc h1.out (.cells #[.int .i64 (max x0 x1), .int .i64 (min y0 y1)] 23))
      obtain ⟨k7, k8⟩ := Bound.zc (Geo.blk_alloc h2.out (.cells #[.int .i64 (max x0 x1), .int .i64 (min y0 y1)] 23))
      clear h1 h2
      have q1 : x0 ≤ max x0 x1 := by omega
      have q2 : x1 ≤ max x0 x1 := by omega
      have q3 : min y0 y1 ≤ y0 := by omega
      have q4 : min y0 y1 ≤ y1 := by omega
      have q5 : ¬ (max x0 x1 > x0 ∧ max x0 x1 > x1) := by omega
      have q6 : ¬ (min y0 y1 < y0 ∧ min y0 y1 < y1) := by omega
      generalize max x0 x1 = M at *
      generalize min y0 y1 = N at *
      replace q5 := Lib.hid q5
      replace q6 := Lib.hid q6
      by_cases c1 : M ≤ a2
      · by_cases c2 : a2 ≤ N
        · clear q5 q6
          have g_x0a2 : x0 ≤ a2 := by omega
          have g_x1a2 : x1 ≤ a2 := by omega
          have g_a2y0 : a2 ≤ y0 := by omega
          have g_a2y1 : a2 ≤ y1 := by omega
          clear q1 q2 q3 q4 hm
          go_wp2_with ((go_at_call 10; refine (Bound.awake_any _).mono ?_; rintro e0 w9 ⟨rfl, hc⟩; replace hA := Lib.hid (Buf.then_ hA.out hc); clear hc))
          go_ret
          first | exact ⟨rfl, hA.out⟩ | (refine ⟨?_, hA.out⟩; simp; omega)
        · by_cases c3 : a2 ≤ y0
          · have := q6.out
            clear q5 q6
            have g_x0a2 : x0 ≤ a2 := by omega
            have g_x1a2 : x1 ≤ a2 := by omega
            have l_y1a2 : ¬ (a2 ≤ y1) := by omega
            have l_Na2 : ¬ (a2 ≤ N) := by omega
            clear this
            clear q1 q2 q3 q4 hm
            go_wp2_with ((go_at_call 10; refine (Bound.awake_any _).mono ?_; rintro e0 w9 ⟨rfl, hc⟩; replace hA := Lib.hid (Buf.then_ hA.out hc); clear hc))
            go_ret
            first | exact ⟨rfl, hA.out⟩ | (refine ⟨?_, hA.out⟩; simp; omega)
          · clear q5 q6
            have g_x0a2 : x0 ≤ a2 := by omega
            have g_x1a2 : x1 ≤ a2 := by omega
            have l_y0a2 : ¬ (a2 ≤ y0) := by omega
            have l_Na2 : ¬ (a2 ≤ N) := by omega
            clear q1 q2 q3 q4 hm
            go_wp2_with ((go_at_call 10; refine (Bound.awake_any _).mono ?_; rintro e0 w9 ⟨rfl, hc⟩; replace hA := Lib.hid (Buf.then_ hA.out hc); clear hc))
            go_ret
            first | exact ⟨rfl, hA.out⟩ | (refine ⟨?_, hA.out⟩; simp; omega)
      · by_cases c2 : x0 ≤ a2
        · by_cases c3 : a2 ≤ y0
          · have := q5.out
            clear q5 q6
            have l_a2x1 : ¬ (x1 ≤ a2) := by omega
            have l_a2M : ¬ (M ≤ a2) := by omega
            clear this
            clear q1 q2 q3 q4 hm
            go_wp2_with ((go_at_call 10; refine (Bound.awake_any _).mono ?_; rintro e0 w9 ⟨rfl, hc⟩; replace hA := Lib.hid (Buf.then_ hA.out hc); clear hc))
            go_ret
            first | exact ⟨rfl, hA.out⟩ | (refine ⟨?_, hA.out⟩; simp; omega)
          · clear q5 q6
            have l_y0a2 : ¬ (a2 ≤ y0) := by omega
            have l_a2M : ¬ (M ≤ a2) := by omega
            clear q1 q2 q3 q4 hm
            go_wp2_with ((go_at_call 10; refine (Bound.awake_any _).mono ?_; rintro e0 w9 ⟨rfl, hc⟩; replace hA := Lib.hid (Buf.then_ hA.out hc); clear hc))
            go_ret
            first | exact ⟨rfl, hA.out⟩ | (refine ⟨?_, hA.out⟩; simp; omega)
        · clear q5 q6
          have l_a2x0 : ¬ (x0 ≤ a2) := by omega
          have l_a2M : ¬ (M ≤ a2) := by omega
          clear q1 q2 q3 q4 hm
          go_wp2_with ((go_at_call 10; refine (Bound.awake_any _).mono ?_; rintro e0 w9 ⟨rfl, hc⟩; replace hA := Lib.hid (Buf.then_ hA.out hc); clear hc))
          go_ret
          first | exact ⟨rfl, hA.out⟩ | (refine ⟨?_, hA.out⟩; simp; omega)
    · replace hA := Lib.hid (Buf.then_ hA.out (Geo.new_block (.cells #[.int .i64 0, .int .i64 0] 23)))
      obtain ⟨k5, k6⟩ := Bound.zc (Geo.blk_alloc h1.out (.cells #[.int .i64 0, .int .i64 0] 23))
      obtain ⟨k7, k8⟩ := Bound.zc (Geo.blk_alloc h2.out (.cells #[.int .i64 0, .int .i64 0] 23))
      clear h1 h2
      by_cases c1 : x0 ≤ a2
      · by_cases c2 : a2 ≤ y0
        · by_cases c3 : x1 ≤ a2
          · have l_y1a2 : ¬ (a2 ≤ y1) := by omega
            clear hm
            go_wp2_with ((go_at_call 10; refine (Bound.awake_any _).mono ?_; rintro e0 w9 ⟨rfl, hc⟩; replace hA := Lib.hid (Buf.then_ hA.out hc); clear hc))
            go_ret
            first | exact ⟨rfl, hA.out⟩ | (refine ⟨?_, hA.out⟩; simp; omega)
          · have l_a2x1 : ¬ (x1 ≤ a2) := by omega
            clear hm
            go_wp2_with ((go_at_call 10; refine (Bound.awake_any _).mono ?_; rintro e0 w9 ⟨rfl, hc⟩; replace hA := Lib.hid (Buf.then_ hA.out hc); clear hc))
            go_ret
            first | exact ⟨rfl, hA.out⟩ | (refine ⟨?_, hA.out⟩; simp; omega)
        · have l_y0a2 : ¬ (a2 ≤ y0) := by omega
          clear hm
          go_wp2_with ((go_at_call 10; refine (Bound.awake_any _).mono ?_; rintro e0 w9 ⟨rfl, hc⟩; replace hA := Lib.hid (Buf.then_ hA.out hc); clear hc))
          go_ret
          first | exact ⟨rfl, hA.out⟩ | (refine ⟨?_, hA.out⟩; simp; omega)
      · have l_a2x0 : ¬ (x0 ≤ a2) := by omega
        clear hm
        go_wp2_with ((go_at_call 10; refine (Bound.awake_any _).mono ?_; rintro e0 w9 ⟨rfl, hc⟩; replace hA := Lib.hid (Buf.then_ hA.out hc); clear hc))
        go_ret
        first | exact ⟨rfl, hA.out⟩ | (refine ⟨?_, hA.out⟩; simp; omega)
end Laws
end Go.Proofs.Ytojgconcnnhapaa
