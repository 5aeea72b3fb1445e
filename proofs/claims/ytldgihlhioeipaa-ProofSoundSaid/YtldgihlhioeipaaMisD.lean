/- At, Bound. -/
import Derived.Test.YtldgihlhioeipaaMisC
import Derived.Test.YtldgihlhioeipaaInvAB
set_option linter.unusedVariables false
set_option linter.unusedSimpArgs false
namespace Go.Proofs.Ytldgihlhioeipaa
open Go.RowKit
namespace Mis
theorem cell3 {w : World} {g : Nat} {x y z : Value} {t : TypeId} (h : w.heap[g]? = some (.cells #[x, y, z] t (0, 0))) : w.cell? ⟨g, 0, none⟩ = some x ∧ w.cell? ⟨g, 1, none⟩ = some y ∧ w.cell? ⟨g, 2, none⟩ = some z :=
  ⟨cell_of_row w g 0 _ _ _ h, cell_of_row w g 1 _ _ _ h, cell_of_row w g 2 _ _ _ h⟩
set_option maxRecDepth 100000 in
set_option maxHeartbeats 8000000 in
theorem bound_any {TT : World → Prop} {w : World} {g c n : Nat} {L : List Ph} {a b c' d e f s : Int} {b1 b2 tn tc td : Nat} {cap : Int} (h : Pk TT a b c' d e f s b1 b2 tn tc td cap L) (ht : TT w) (hp : PhR w g L) (hn : n = L.length) (hc : n ≤ c) (p1 p2 p3 q1 q2 q3 : Int) (zf : Ph → Int × Int) (hbv : Geo.BV p1 p2 p3 q1 q2 q3) (hin : Geo.wiB p1 p2 p3 q1 q2 q3 a b c' d e f = true)
    (hz : ∀ (k : Nat) (q : Ph), L[k]? = some q → ∀ w, TT w → Calls Try.prog 73 #[.agg #[.int .i64 s, .slice (some ⟨b1, 0, none⟩) tn tc, .slice (some ⟨b2, 0, none⟩) tn td], .agg #[.int .i64 p1, .int .i64 p2, .int .i64 p3, .int .i64 q1, .int .i64 q2, .int .i64 q3], .agg #[.int .i64 q.x, .int .i64 q.y, .int .i64 q.z, .int .i64 q.E, .int .i64 q.L, .int .i64 q.W]] w fun r w' => r = .returned (.tuple #[.agg #[.int .i64 (zf q).1, .int .i64 (zf q).2], .int .i64 0]) ∧ Below w.heap.size w w') (hcs : Cs cap L (L.map zf)) :
    Calls Try.prog 50 #[.agg #[.int .i64 a, .int .i64 b, .int .i64 c', .int .i64 d, .int .i64 e, .int .i64 f, .int .i64 s, .slice (some ⟨b1, 0, none⟩) tn tc, .slice (some ⟨b2, 0, none⟩) tn td, .slice (some ⟨g, 0, none⟩) n c, .int .i64 cap], .agg #[.int .i64 p1, .int .i64 p2, .int .i64 p3, .int .i64 q1, .int .i64 q2, .int .i64 q3]] w fun r w' => r = .returned (.tuple #[.int .i64 (best cap (wt L) (zn (L.map zf)) n).2, .int .i64 0]) ∧ Below w.heap.size w w' := by
  have H := Lib.hid h
  have HT := Lib.hid ht
  have HP := Lib.hid hp
  have Hn := Lib.hid hn
  have n1 : 1 ≤ n := by rw [hn]; exact h.n1
  have BA := Lib.hid fun w h1 gz cz h2 h3 h4 => best_any (w := w) (g := g) (gz := gz) (cz := cz) (c := c) a b c' d e f s (some ⟨b1, 0, none⟩) (some ⟨b2, 0, none⟩) tn tn tc td cap hcs h1 h2 (by rw [← hn]; exact hc) h3 h4 n hn
  obtain ⟨w0, hw0⟩ : ∃ w0, w0 = (w.alloc (.cells #[.int .i64 a, .int .i64 b, .int .i64 c', .int .i64 d, .int .i64 e, .int .i64 f, .int .i64 s, .slice (some ⟨b1, 0, none⟩) tn tc, .slice (some ⟨b2, 0, none⟩) tn td, .slice (some ⟨g, 0, none⟩) n c, .int .i64 cap] 36)).alloc (.cells #[.int .i64 p1, .int .i64 p2, .int .i64 p3, .int .i64 q1, .int .i64 q2, .int .i64 q3] 26) := ⟨_, rfl⟩
  have e1 : (w.alloc (.cells #[.int .i64 a, .int .i64 b, .int .i64 c', .int .i64 d, .int .i64 e, .int .i64 f, .int .i64 s, .slice (some ⟨b1, 0, none⟩) tn tc, .slice (some ⟨b2, 0, none⟩) tn td, .slice (some ⟨g, 0, none⟩) n c, .int .i64 cap] 36)).heap.size = w.heap.size + 1 := by simp
  have W0 := Lib.hid (show Below w.heap.size w w0 by rw [hw0]; exact (new_block _).alloc (by simp) _)
  have B0 := Lib.hid (show w0.heap[w.heap.size]? = some (.cells #[.int .i64 a, .int .i64 b, .int .i64 c', .int .i64 d, .int .i64 e, .int .i64 f, .int .i64 s, .slice (some ⟨b1, 0, none⟩) tn tc, .slice (some ⟨b2, 0, none⟩) tn td, .slice (some ⟨g, 0, none⟩) n c, .int .i64 cap] 36 (0, 0)) by rw [hw0]; exact (heap_alloc_old _ _ (by simp)).trans (heap_alloc_new w _))
  have B1 := Lib.hid (show w0.heap[w.heap.size + 1]? = some (.cells #[.int .i64 p1, .int .i64 p2, .int .i64 p3, .int .i64 q1, .int .i64 q2, .int .i64 q3] 26 (0, 0)) by rw [hw0, ← e1]; exact heap_alloc_new _ _)
  have ZC := Lib.hid (zones_any h (h.stab _ _ ht W0.out) (hp.below W0.out) hn hc p1 p2 p3 q1 q2 q3 zf hbv hin hz)
  clear h ht hp hn hz hbv hin hc hcs
  go_enter Try.func50, Try.ntmps50
  go_upto_region 1 with fail
  clear e1
  rw [← hw0]
  clear hw0
  obtain ⟨e0, e1, e2, e3, e4, e5, e6, e7, e8, e9, e10⟩ := c11 B0.out
  obtain ⟨v0, v1, v2, v3, v4, v5⟩ := cell6 B1.out
  go_wp2_with fail
  with_reducible refine (ZC.out).mono ?_
  rintro r w1 ⟨⟨vz, rfl, od⟩, hb1⟩
  replace B0 := Lib.hid (hb hb1 B0.out)
  have z0 := W0.out.size
  replace W0 := Lib.hid (Buf.then_ W0.out hb1)
  obtain ⟨gz, cz, rfl, zr, h1, h2, h3⟩ := znR_of_own od (by rw [List.length_map, ← Hn.out]; omega)
  have BE := Lib.hid (BA.out w1 (HP.out.below W0.out) gz cz zr (by rw [List.length_map] at h1; exact h1) h2)
  rw [show (L.map zf).length = n by rw [List.length_map, ← Hn.out]] at *
  clear zr h1 h2 h3 od hb1 e0 e1 e2 e3 e4 e5 e6 e7 e8 e9 e10 v0 v1 v2 v3 v4 v5
  obtain ⟨e0, e1, e2, e3, e4, e5, e6, e7, e8, e9, e10⟩ := c11 B0.out
  go_wp2_with fail
  with_reducible refine (BE.out).mono ?_
  rintro r w9 ⟨rfl, hb1⟩
  clear e0 e1 e2 e3 e4 e5 e6 e7 e8 e9 e10
  go_wp2_with fail
  go_ret2
  exact ⟨rfl, Buf.then_ W0.out hb1⟩
set_option maxRecDepth 100000 in
set_option maxHeartbeats 8000000 in
theorem at_any {TT : World → Prop} {w : World} {g c n : Nat} {L : List Ph} {a b c' d e f s : Int} {b1 b2 tn tc td : Nat} {cap : Int} (h : Pk TT a b c' d e f s b1 b2 tn tc td cap L) (ht : TT w) (hp : PhR w g L) (hn : n = L.length) (hc : n ≤ c) (x y z : Int) (zf : Ph → Int × Int) (hbv : Geo.BV x y z x y z) (hin : Geo.wiB x y z x y z a b c' d e f = true)
    (hz : ∀ (k : Nat) (q : Ph), L[k]? = some q → ∀ w, TT w → Calls Try.prog 73 #[.agg #[.int .i64 s, .slice (some ⟨b1, 0, none⟩) tn tc, .slice (some ⟨b2, 0, none⟩) tn td], .agg #[.int .i64 x, .int .i64 y, .int .i64 z, .int .i64 x, .int .i64 y, .int .i64 z], .agg #[.int .i64 q.x, .int .i64 q.y, .int .i64 q.z, .int .i64 q.E, .int .i64 q.L, .int .i64 q.W]] w fun r w' => r = .returned (.tuple #[.agg #[.int .i64 (zf q).1, .int .i64 (zf q).2], .int .i64 0]) ∧ Below w.heap.size w w') (hcs : Cs cap L (L.map zf)) :
    Calls Try.prog 13 #[.agg #[.int .i64 a, .int .i64 b, .int .i64 c', .int .i64 d, .int .i64 e, .int .i64 f, .int .i64 s, .slice (some ⟨b1, 0, none⟩) tn tc, .slice (some ⟨b2, 0, none⟩) tn td, .slice (some ⟨g, 0, none⟩) n c, .int .i64 cap], .agg #[.int .i64 x, .int .i64 y, .int .i64 z]] w fun r w' => r = .returned (.tuple #[.int .i64 (best cap (wt L) (zn (L.map zf)) n).1, .int .i64 (best cap (wt L) (zn (L.map zf)) n).2, .int .i64 0]) ∧ Below w.heap.size w w' := by
  have H := Lib.hid h
  have HT := Lib.hid ht
  have HP := Lib.hid hp
  have Hn := Lib.hid hn
  have n1 : 1 ≤ n := by rw [hn]; exact h.n1
  have BA := Lib.hid fun w h1 gz cz h2 h3 h4 => best_any (w := w) (g := g) (gz := gz) (cz := cz) (c := c) a b c' d e f s (some ⟨b1, 0, none⟩) (some ⟨b2, 0, none⟩) tn tn tc td cap hcs h1 h2 (by rw [← hn]; exact hc) h3 h4 n hn
  obtain ⟨w0, hw0e⟩ : ∃ w0, w0 = (w.alloc (.cells #[.int .i64 a, .int .i64 b, .int .i64 c', .int .i64 d, .int .i64 e, .int .i64 f, .int .i64 s, .slice (some ⟨b1, 0, none⟩) tn tc, .slice (some ⟨b2, 0, none⟩) tn td, .slice (some ⟨g, 0, none⟩) n c, .int .i64 cap] 36)).alloc (.cells #[.int .i64 x, .int .i64 y, .int .i64 z] 24) := ⟨_, rfl⟩
  have e1 : (w.alloc (.cells #[.int .i64 a, .int .i64 b, .int .i64 c', .int .i64 d, .int .i64 e, .int .i64 f, .int .i64 s, .slice (some ⟨b1, 0, none⟩) tn tc, .slice (some ⟨b2, 0, none⟩) tn td, .slice (some ⟨g, 0, none⟩) n c, .int .i64 cap] 36)).heap.size = w.heap.size + 1 := by simp
  have W0 := Lib.hid (show Below w.heap.size w w0 by rw [hw0e]; exact (new_block _).alloc (by simp) _)
  have B0 := Lib.hid (show w0.heap[w.heap.size]? = some (.cells #[.int .i64 a, .int .i64 b, .int .i64 c', .int .i64 d, .int .i64 e, .int .i64 f, .int .i64 s, .slice (some ⟨b1, 0, none⟩) tn tc, .slice (some ⟨b2, 0, none⟩) tn td, .slice (some ⟨g, 0, none⟩) n c, .int .i64 cap] 36 (0, 0)) by rw [hw0e]; exact (heap_alloc_old _ _ (by simp)).trans (heap_alloc_new w _))
  have B1 := Lib.hid (show w0.heap[w.heap.size + 1]? = some (.cells #[.int .i64 x, .int .i64 y, .int .i64 z] 24 (0, 0)) by rw [hw0e, ← e1]; exact heap_alloc_new _ _)
  have ZC := Lib.hid fun wx (hx : Below w0.heap.size w0 wx) => zones_any h (h.stab _ _ ht (Buf.then_ W0.out hx)) (hp.below (Buf.then_ W0.out hx)) hn hc x y z x y z zf hbv hin hz
  clear h ht hp hn hz hbv hin hc hcs
  go_enter Try.func13, Try.ntmps13
  go_upto_region 1 with fail
  clear e1
  rw [← hw0e]
  clear hw0e
  have hw0 : Below w0.heap.size w0 w0.drew := (Below.refl _ _).drew
  refine wp_region_noPanic ?_
  refine wp_region_any (by kernel_rfl) ?_
  refine Inv.wpAny_inv (fun k => false) [12, 13, 14, 15, 11, 16, 17, 7, 8] (fun w' => Below w0.heap.size w0 w') (fun _ w1 w2 => Below w1.heap.size w1 w2) (fun k => ([fun v_ w_ => v_ = .agg #[.int .i64 a, .int .i64 b, .int .i64 c', .int .i64 d, .int .i64 e, .int .i64 f, .int .i64 s, .slice (some ⟨b1, 0, none⟩) tn tc, .slice (some ⟨b2, 0, none⟩) tn td, .slice (some ⟨g, 0, none⟩) n c, .int .i64 cap], fun v_ w_ => v_ = .agg #[.int .i64 x, .int .i64 y, .int .i64 z], fun v_ w_ => v_ = .agg #[.int .i64 x, .int .i64 y, .int .i64 z, .int .i64 x, .int .i64 y, .int .i64 z], fun v_ w_ => ∃ v_z, v_ = .tuple #[v_z, .int .i64 0] ∧ OwnZ w_ w.heap.size v_z (L.map zf), fun v_ w_ => ∃ v_z, v_ = .tuple #[v_z, .int .i64 0] ∧ OwnZ w_ w.heap.size v_z (L.map zf), fun v_ w_ => OwnZ w_ w.heap.size v_ (L.map zf), fun v_ w_ => v_ = .int .i64 0, fun v_ w_ => OwnZ w_ w.heap.size v_ (L.map zf), fun v_ w_ => v_ = .int .i64 0] : List (Value → World → Prop)).getD k (fun _ _ => True)) _ (fun σ => by simp only [Inv.putAll, List.foldl_cons, List.foldl_nil, Act.put, List.setIfInBounds_toArray, List.set_cons_zero, List.set_cons_succ]; rfl) (by kernel_rfl) (by kernel_rfl) ?_ hw0 ?_ ?_ 0 #[true, true, true, true, true, true, true, true, true] (by kernel_rfl) (by kernel_rfl) ?_
  · intro j k v w1 w2 hjk hv hr
    rcases k with _ | k
    · exact hv
    rcases k with _ | k
    · exact hv
    rcases k with _ | k
    · exact hv
    rcases k with _ | k
    · exact (by obtain ⟨v, h1, h2⟩ := hv; exact ⟨v, h1, own_below h2 hr⟩)
    rcases k with _ | k
    · exact (by obtain ⟨v, h1, h2⟩ := hv; exact ⟨v, h1, own_below h2 hr⟩)
    rcases k with _ | k
    · exact (own_below hv hr)
    rcases k with _ | k
    · exact hv
    rcases k with _ | k
    · exact (own_below hv hr)
    rcases k with _ | k
    · exact hv
    · exact hv
  · intro k t hl hd
    rcases k with _ | k
    · exact absurd hl (by decide +kernel)
    rcases k with _ | k
    · exact absurd hl (by decide +kernel)
    rcases k with _ | k
    · exact absurd hl (by decide +kernel)
    rcases k with _ | k
    · exact absurd hl (by decide +kernel)
    rcases k with _ | k
    · exact absurd hl (by decide +kernel)
    rcases k with _ | k
    · exact absurd hl (by decide +kernel)
    rcases k with _ | k
    · exact absurd hl (by decide +kernel)
    rcases k with _ | k
    · exact absurd hl (by decide +kernel)
    rcases k with _ | k
    · exact absurd hl (by decide +kernel)
    · simp at hd
  · show Inv.Steps _ _ _ _ _ _ _ _ [0, 1, 2, 3, 4, 5, 6, 7, 8]
    refine Inv.Steps.go (by decide) (by rfl) (fun σ wx hw hd K hK => ?_) ?_
    · simp only [List.getElem_toArray, List.getElem_cons_zero, List.getElem_cons_succ, Act.put, List.setIfInBounds_toArray, List.set_cons_zero, List.set_cons_succ] at hK ⊢
      obtain ⟨f0, f1, f2, f3, f4, f5, f6, f7, f8, f9, f10⟩ := c11 (hb hw B0.out)
      go_simp
      exact hK.out _ _ hw (Below.refl _ _) (rfl)
    refine Inv.Steps.go (by decide) (by rfl) (fun σ wx hw hd K hK => ?_) ?_
    · simp only [List.getElem_toArray, List.getElem_cons_zero, List.getElem_cons_succ, Act.put, List.setIfInBounds_toArray, List.set_cons_zero, List.set_cons_succ] at hK ⊢
      obtain ⟨f0, f1, f2⟩ := cell3 (hb hw B1.out)
      go_simp
      exact hK.out _ _ hw (Below.refl _ _) (rfl)
    refine Inv.Steps.go (by decide) (by rfl) (fun σ wx hw hd K hK => ?_) ?_
    · obtain e13 : (σ 13) = .agg #[.int .i64 x, .int .i64 y, .int .i64 z] := hd 1 (some 13) (by kernel_rfl) (by rfl)
      simp only [List.getElem_toArray, List.getElem_cons_zero, List.getElem_cons_succ, Act.put, List.setIfInBounds_toArray, List.set_cons_zero, List.set_cons_succ, e13] at hK ⊢
      go_simp
      go_at_call 34
      refine (point_any x y z wx).mono ?_
      rintro e w1 ⟨rfl, hb1⟩
      dsimp only
      exact hK.out _ _ (Buf.then_ hw hb1) hb1 (rfl)
    refine Inv.Steps.go (by decide) (by rfl) (fun σ wx hw hd K hK => ?_) ?_
    · obtain e12 : (σ 12) = .agg #[.int .i64 a, .int .i64 b, .int .i64 c', .int .i64 d, .int .i64 e, .int .i64 f, .int .i64 s, .slice (some ⟨b1, 0, none⟩) tn tc, .slice (some ⟨b2, 0, none⟩) tn td, .slice (some ⟨g, 0, none⟩) n c, .int .i64 cap] := hd 0 (some 12) (by kernel_rfl) (by rfl)
      obtain e14 : (σ 14) = .agg #[.int .i64 x, .int .i64 y, .int .i64 z, .int .i64 x, .int .i64 y, .int .i64 z] := hd 2 (some 14) (by kernel_rfl) (by rfl)
      simp only [List.getElem_toArray, List.getElem_cons_zero, List.getElem_cons_succ, Act.put, List.setIfInBounds_toArray, List.set_cons_zero, List.set_cons_succ, e12, e14] at hK ⊢
      go_simp
      go_at_call 33
      refine (ZC.out wx hw).mono ?_
      rintro e w1 ⟨⟨va, rfl, ho⟩, hb1⟩
      dsimp only
      exact hK.out _ _ (Buf.then_ hw hb1) hb1 (⟨va, rfl, own_mono ho (Nat.le_trans W0.out.size hw.size)⟩)
    refine Inv.Steps.go (by decide) (by rfl) (fun σ wx hw hd K hK => ?_) ?_
    · obtain ⟨va, e15, oa⟩ : ∃ v_z, (σ 15) = .tuple #[v_z, .int .i64 0] ∧ OwnZ wx w.heap.size v_z (L.map zf) := hd 3 (some 15) (by kernel_rfl) (by rfl)
      simp only [List.getElem_toArray, List.getElem_cons_zero, List.getElem_cons_succ, Act.put, List.setIfInBounds_toArray, List.set_cons_zero, List.set_cons_succ, e15] at hK ⊢
      go_simp
      exact hK.out _ _ hw (Below.refl _ _) (⟨va, rfl, oa⟩)
    refine Inv.Steps.go (by decide) (by rfl) (fun σ wx hw hd K hK => ?_) ?_
    · obtain ⟨vb, e11, ob⟩ : ∃ v_z, (σ 11) = .tuple #[v_z, .int .i64 0] ∧ OwnZ wx w.heap.size v_z (L.map zf) := hd 4 (some 11) (by kernel_rfl) (by rfl)
      simp only [List.getElem_toArray, List.getElem_cons_zero, List.getElem_cons_succ, Act.put, List.setIfInBounds_toArray, List.set_cons_zero, List.set_cons_succ, e11] at hK ⊢
      go_simp
      exact hK.out _ _ hw (Below.refl _ _) (ob)
    refine Inv.Steps.go (by decide) (by rfl) (fun σ wx hw hd K hK => ?_) ?_
    · obtain ⟨vb, e11, ob⟩ : ∃ v_z, (σ 11) = .tuple #[v_z, .int .i64 0] ∧ OwnZ wx w.heap.size v_z (L.map zf) := hd 4 (some 11) (by kernel_rfl) (by rfl)
      simp only [List.getElem_toArray, List.getElem_cons_zero, List.getElem_cons_succ, Act.put, List.setIfInBounds_toArray, List.set_cons_zero, List.set_cons_succ, e11] at hK ⊢
      go_simp
      exact hK.out _ _ hw (Below.refl _ _) (rfl)
    refine Inv.Steps.go (by decide) (by rfl) (fun σ wx hw hd K hK => ?_) ?_
    · obtain oc : OwnZ wx w.heap.size (σ 16) (L.map zf) := hd 5 (some 16) (by kernel_rfl) (by rfl)
      simp only [List.getElem_toArray, List.getElem_cons_zero, List.getElem_cons_succ, Act.put, List.setIfInBounds_toArray, List.set_cons_zero, List.set_cons_succ] at hK ⊢
      go_simp
      exact hK.out _ _ hw (Below.refl _ _) (oc)
    refine Inv.Steps.go (by decide) (by rfl) (fun σ wx hw hd K hK => ?_) ?_
    · obtain e17 : (σ 17) = .int .i64 0 := hd 6 (some 17) (by kernel_rfl) (by rfl)
      simp only [List.getElem_toArray, List.getElem_cons_zero, List.getElem_cons_succ, Act.put, List.setIfInBounds_toArray, List.set_cons_zero, List.set_cons_succ, e17] at hK ⊢
      go_simp
      exact hK.out _ _ hw (Below.refl _ _) (rfl)
    exact Inv.Steps.nil
  · intro σ wx hw hd
    obtain od : OwnZ wx w.heap.size (σ 7) (L.map zf) := hd 7 (some 7) (by rfl) (by rfl)
    obtain e8 : (σ 8) = .int .i64 0 := hd 8 (some 8) (by rfl) (by rfl)
    simp only [e8]
    generalize hvv : σ 7 = vz at *
    refine Inv.done (by kernel_rfl) (NoPanic.normal ?_)
    have O7 := Lib.hid od
    clear hd hvv
    have W7 := Lib.hid (Buf.then_ W0.out hw)
    have B7 := Lib.hid (hb hw B0.out)
    obtain ⟨gz, cz, rfl, zr, h1, h2, h3⟩ := znR_of_own O7.out (by rw [List.length_map, ← Hn.out]; omega)
    have BE := Lib.hid (BA.out wx (HP.out.below W7.out) gz cz zr (by rw [List.length_map] at h1; exact h1) h2)
    rw [show (L.map zf).length = n by rw [List.length_map, ← Hn.out]] at *
    clear zr h1 h2 h3 hw od O7
    obtain ⟨f0, f1, f2, f3, f4, f5, f6, f7, f8, f9, f10⟩ := c11 B7.out
    go_wp2_with fail
    with_reducible refine (BE.out).mono ?_
    rintro r w9 ⟨rfl, hb1⟩
    clear f0 f1 f2 f3 f4 f5 f6 f7 f8 f9 f10
    go_wp2_with fail
    go_ret3
    exact ⟨rfl, Buf.then_ W7.out hb1⟩
end Mis
end Go.Proofs.Ytldgihlhioeipaa
