/- Split of the reference of layer 24. -/
import Derived.Test.YtklgnbimfobgkaaGbE
import Derived.Test.YtklgnbimfobgkaaInvS
import Derived.Laws.CopyOwn
import Derived.Deep.DeepCutAuto
import Derived.Deep.RegionHeld3
import Derived.RegionTactic
set_option linter.unusedVariables false
set_option linter.unusedSimpArgs false
namespace Go.Proofs.Ytklgnbimfobgkaa
open Go.RowKit
namespace Geo
theorem HD (v : World) : v.drew.heap = v.heap := rfl
set_option maxHeartbeats 8000000 in
set_option maxRecDepth 100000 in
theorem rsplit_A (a b c d e f : Int) (h : bvB a b c d e f = true) (h2 : 2 ≤ pts a b c d e f) (k1 : e - b ≤ d - a) (k2 : f - c ≤ d - a) (w : World) :
    Calls Try.prog 12 #[.agg #[.int .i64 a, .int .i64 b, .int .i64 c, .int .i64 d, .int .i64 e, .int .i64 f]] w fun r w' => r = .returned (.tuple #[.agg #[.int .i64 a, .int .i64 b, .int .i64 c, .int .i64 (a + (d - a) / 2), .int .i64 e, .int .i64 f], .agg #[.int .i64 ((a + (d - a) / 2) + 1), .int .i64 b, .int .i64 c, .int .i64 d, .int .i64 e, .int .i64 f], .bool true]) ∧ Below w.heap.size w w' := by
  have P := Lib.hid fun w => rpoints_2 a b c d e f h w
  have C := Lib.hid fun w => rcenter_2 a b c d e f h w
  obtain ⟨⟨ax0, ax1, ay0, ay1, az0, az1⟩, ⟨dx0, dx1, dy0, dy1, dz0, dz1⟩, hx, hy, hz⟩ := bvB_yes h
  clear h
  generalize pts a b c d e f = np at *
  obtain ⟨m0, hm0⟩ : ∃ m, m = a + (d - a) / 2 := ⟨_, rfl⟩
  obtain ⟨m1, hm1⟩ : ∃ m, m = b + (e - b) / 2 := ⟨_, rfl⟩
  obtain ⟨m2, hm2⟩ : ∃ m, m = c + (f - c) / 2 := ⟨_, rfl⟩
  rw [← hm0, ← hm1, ← hm2] at C
  rw [← hm0]
  have b0 : a ≤ m0 ∧ m0 ≤ d := by omega
  have b1 : b ≤ m1 ∧ m1 ≤ e := by omega
  have b2 : c ≤ m2 ∧ m2 ≤ f := by omega
  clear hm0 hm1 hm2
  have p1 := Lib.hid (blk_alloc (blk_alloc (blk_new w (.cells #[.int .i64 a, .int .i64 b, .int .i64 c, .int .i64 d, .int .i64 e, .int .i64 f] 25)) (.cells #[.int .i64 0, .int .i64 0, .int .i64 0, .int .i64 0, .int .i64 0, .int .i64 0] 25)) (.cells #[.int .i64 0, .int .i64 0, .int .i64 0, .int .i64 0, .int .i64 0, .int .i64 0] 25))
  have p2 := Lib.hid (blk_alloc (blk_new1 w (.cells #[.int .i64 a, .int .i64 b, .int .i64 c, .int .i64 d, .int .i64 e, .int .i64 f] 25) (.cells #[.int .i64 0, .int .i64 0, .int .i64 0, .int .i64 0, .int .i64 0, .int .i64 0] 25)) (.cells #[.int .i64 0, .int .i64 0, .int .i64 0, .int .i64 0, .int .i64 0, .int .i64 0] 25))
  have p3 := Lib.hid (blk_new2 w (.cells #[.int .i64 a, .int .i64 b, .int .i64 c, .int .i64 d, .int .i64 e, .int .i64 f] 25) (.cells #[.int .i64 0, .int .i64 0, .int .i64 0, .int .i64 0, .int .i64 0, .int .i64 0] 25) (.cells #[.int .i64 0, .int .i64 0, .int .i64 0, .int .i64 0, .int .i64 0, .int .i64 0] 25))
  have hA := Lib.hid (Buf.then_ (Buf.then_ (new_block (w := w) (.cells #[.int .i64 a, .int .i64 b, .int .i64 c, .int .i64 d, .int .i64 e, .int .i64 f] 25)) (new_block (.cells #[.int .i64 0, .int .i64 0, .int .i64 0, .int .i64 0, .int .i64 0, .int .i64 0] 25))) (new_block (.cells #[.int .i64 0, .int .i64 0, .int .i64 0, .int .i64 0, .int .i64 0, .int .i64 0] 25)))
  go_enter Try.func12, Try.ntmps12
  go_wp2_with fail
  with_reducible refine (P.out _).mono ?_
  rintro r w1 ⟨rfl, hb⟩
  replace p1 := Lib.hid (blk_b hb p1.out)
  replace p2 := Lib.hid (blk_b hb p2.out)
  replace p3 := Lib.hid (blk_b hb p3.out)
  replace hA := Lib.hid (Buf.then_ hA.out hb)
  clear hb
  obtain ⟨u1, u2, u3, u4, u5, u6⟩ := cells6 p1.out
  go_wp2_with fail
  go_quiet (fail)
  go_wp2_with fail
  with_reducible refine (C.out _).mono ?_
  rintro r w3 ⟨rfl, hb⟩
  replace hb : Below w1.heap.size w1 w3 := Buf.then_ (Buf.below_drewN (Below.refl _ _) _) hb
  replace p1 := Lib.hid (blk_b hb p1.out)
  replace p2 := Lib.hid (blk_b hb p2.out)
  replace p3 := Lib.hid (blk_b hb p3.out)
  replace hA := Lib.hid (Buf.then_ hA.out hb)
  clear hb u1 u2 u3 u4 u5 u6
  go_upto_region 5 with fail
  obtain ⟨w4, hw4⟩ : ∃ wz, wz = w3.alloc (.cells #[.int .i64 m0, .int .i64 m1, .int .i64 m2] 23) := ⟨_, rfl⟩
  obtain ⟨mb, hmb⟩ : ∃ z, z = w3.heap.size := ⟨_, rfl⟩
  have hb : Below w3.heap.size w3 w4 := by rw [hw4]; exact new_block _
  have km := Lib.hid (show w4.heap[mb]? = some (.cells #[.int .i64 m0, .int .i64 m1, .int .i64 m2] 23 (0, 0)) by rw [hw4, hmb]; exact blk_new w3 _)
  have hmb1 : w.heap.size + 2 < mb := by rw [hmb]; exact (Array.getElem?_eq_some_iff.1 p3.out).1
  have hmb2 : mb < w4.heap.size := (Array.getElem?_eq_some_iff.1 km.out).1
  rw [← hw4, ← hmb]
  replace p1 := Lib.hid (blk_b hb p1.out)
  replace p2 := Lib.hid (blk_b hb p2.out)
  replace p3 := Lib.hid (blk_b hb p3.out)
  replace hA := Lib.hid (Buf.then_ hA.out hb)
  clear hb hw4 hmb
  go_cut [9, 10] (fun v9 v10 wx => ∃ (p q : Nat) (wz : World), wz = wx ∧ p ≠ q ∧ w4.heap.size ≤ p ∧ w4.heap.size ≤ q ∧ v9 = .pointer (some ⟨p, 0, none⟩) ∧ v10 = .pointer (some ⟨q, 0, none⟩) ∧ Hid (wz.heap[p]? = some (.cells #[.int .i64 a, .int .i64 b, .int .i64 c, .int .i64 d, .int .i64 e, .int .i64 f] 25 (0, 0))) ∧ Hid (wz.heap[q]? = some (.cells #[.int .i64 a, .int .i64 b, .int .i64 c, .int .i64 d, .int .i64 e, .int .i64 f] 25 (0, 0))) ∧ Hid (Below w4.heap.size w4 wz))
  case first =>
    obtain ⟨u1, u2, u3, u4, u5, u6⟩ := cells6 p1.out
    have ne1 := World.new_ne w4 _ u1
    go_region_held3 (fun w' => w'.cell? ⟨w.heap.size, 0, none⟩ = some (.int .i64 a) ∧ w'.cell? ⟨w.heap.size, 1, none⟩ = some (.int .i64 b) ∧ w'.cell? ⟨w.heap.size, 2, none⟩ = some (.int .i64 c) ∧ w'.cell? ⟨w.heap.size, 3, none⟩ = some (.int .i64 d) ∧ w'.cell? ⟨w.heap.size, 4, none⟩ = some (.int .i64 e) ∧ w'.cell? ⟨w.heap.size, 5, none⟩ = some (.int .i64 f)) (go_keep) (fail)
    all_goals go_wp2_with fail
    all_goals go_meet
    · exact ⟨w4.heap.size, w4.heap.size + 1, _, rfl, by omega, by omega, by omega, rfl, rfl, Lib.hid (blk_alloc (blk_new w4 _) _), Lib.hid (blk_new1 w4 _ _), Lib.hid (Below.drew (Buf.then_ (new_block _) (new_block _)))⟩
    · exact ⟨w4.heap.size + 1, w4.heap.size, _, rfl, by omega, by omega, by omega, rfl, rfl, Lib.hid (blk_new1 w4 _ _), Lib.hid (blk_alloc (blk_new w4 _) _), Lib.hid (Below.drew (Buf.then_ (new_block _) (new_block _)))⟩
  case rest =>
    obtain ⟨p, q, wc, rfl, hpq, hp0, hq0, rfl, rfl, gp, gq, hb⟩ := hcut
    replace p2 := Lib.hid (blk_b hb.out p2.out)
    replace p3 := Lib.hid (blk_b hb.out p3.out)
    replace km := Lib.hid (blk_b hb.out km.out)
    replace hA := Lib.hid (Buf.then_ hA.out hb.out)
    clear hb p1
    obtain ⟨c1, c2, c3, _, _, _⟩ := cells3 km.out
    obtain ⟨g1, g2, g3, g4, g5, g6, g7, g8, g9, g10, g11, g12⟩ := cells6f gp.out
    obtain ⟨i1, i2, i3, i4, i5, i6, i7, i8, i9, i10, i11, i12⟩ := cells6f gq.out
    have hqp : q ≠ p := Ne.symm hpq
    have hmp : p ≠ mb := by omega
    have d1 : (wc.setCell ⟨p, 3, none⟩ (.int .i64 m0)).cell? ⟨mb, 0, none⟩ = some (.int .i64 m0) := by rw [World.cell?_setCell_far _ _ _ _ hmp]; exact c1
    have d2 : (wc.setCell ⟨p, 3, none⟩ (.int .i64 m0)).cell? ⟨q, 0, none⟩ = some (.int .i64 a) := by rw [World.cell?_setCell_far _ _ _ _ hpq]; exact i1
    have d3 : (wc.setCell ⟨p, 3, none⟩ (.int .i64 m0)).frozen? ⟨q, 0, none⟩ = false := by rw [World.frozen?_setCell]; exact i7
    go_wp2_with fail
    go_region
    obtain ⟨wz, hwz⟩ : ∃ wz, wz = ((wc.setCell ⟨p, 3, none⟩ (.int .i64 m0)).setCell ⟨q, 0, none⟩ (.int .i64 (m0 + 1))).drew := ⟨_, rfl⟩
    have zp : wz.heap[p]? = some (.cells #[.int .i64 a, .int .i64 b, .int .i64 c, .int .i64 m0, .int .i64 e, .int .i64 f] 25 (0, 0)) := by rw [hwz, HD, Below.heap_setCell _ _ _ p (by simpa using hpq)]; exact (heap_setCell_same _ p 3 _ _ _ gp.out).trans rfl
    have zq : wz.heap[q]? = some (.cells #[.int .i64 (m0 + 1), .int .i64 b, .int .i64 c, .int .i64 d, .int .i64 e, .int .i64 f] 25 (0, 0)) := by rw [hwz, HD]; exact (heap_setCell_same _ q 0 _ _ _ ((Below.heap_setCell _ _ _ q (by simpa using hqp)).trans gq.out)).trans rfl
    have z2 : wz.heap[w.heap.size + 1]? = some (.cells #[.int .i64 0, .int .i64 0, .int .i64 0, .int .i64 0, .int .i64 0, .int .i64 0] 25 (0, 0)) := by rw [hwz, HD, Below.heap_setCell _ _ _ _ (by simp; omega), Below.heap_setCell _ _ _ _ (by simp; omega)]; exact p2.out
    have z3 : wz.heap[w.heap.size + 1 + 1]? = some (.cells #[.int .i64 0, .int .i64 0, .int .i64 0, .int .i64 0, .int .i64 0, .int .i64 0] 25 (0, 0)) := by rw [hwz, HD, Below.heap_setCell _ _ _ _ (by simp; omega), Below.heap_setCell _ _ _ _ (by simp; omega)]; exact p3.out
    have z4 : Below w.heap.size w wz := by rw [hwz]; exact Below.drew ((hA.out.setCell (by simp; omega) _).setCell (by simp; omega) _)
    rw [← hwz]
    clear hwz c1 c2 c3 g1 g2 g3 g4 g5 g6 g7 g8 g9 g10 g11 g12 i1 i2 i3 i4 i5 i6 i7 i8 i9 i10 i11 i12 d1 d2 d3 gp gq p2 p3 hA km
    have n2p : p ≠ w.heap.size + 1 := by omega
    have n2q : q ≠ w.heap.size + 1 := by omega
    have n3p : p ≠ w.heap.size + 1 + 1 := by omega
    have n3q : q ≠ w.heap.size + 1 + 1 := by omega
    have n23 : w.heap.size + 1 ≠ w.heap.size + 1 + 1 := by omega
    have n32 : w.heap.size + 1 + 1 ≠ w.heap.size + 1 := by omega
    have h2b : w.heap.size ≤ w.heap.size + 1 := by omega
    have h3b : w.heap.size ≤ w.heap.size + 1 + 1 := by omega
    clear hp0 hq0 hpq hqp hmp
    replace zp := Lib.hid zp
    replace zq := Lib.hid zq
    replace z2 := Lib.hid z2
    replace z3 := Lib.hid z3
    replace z4 := Lib.hid z4
    go_wp2_with fail
    refine wp_region_noPanic ?_
    refine wp_region_any (by kernel_rfl) ?_
    refine InvS.wpAny_inv (fun k => false) [81, 82, 4] (fun w' => Hid (w'.heap[p]? = some (.cells #[.int .i64 a, .int .i64 b, .int .i64 c, .int .i64 m0, .int .i64 e, .int .i64 f] 25 (0, 0))) ∧ Hid (w'.heap[q]? = some (.cells #[.int .i64 (m0 + 1), .int .i64 b, .int .i64 c, .int .i64 d, .int .i64 e, .int .i64 f] 25 (0, 0))) ∧ (∃ cq_ : Array Value, cq_.size = (#[.int .i64 a, .int .i64 b, .int .i64 c, .int .i64 m0, .int .i64 e, .int .i64 f] : Array Value).size ∧ w'.heap[(w.heap.size + 1)]? = some (.cells cq_ 25 (0, 0))) ∧ (∃ cq_ : Array Value, cq_.size = (#[.int .i64 (m0 + 1), .int .i64 b, .int .i64 c, .int .i64 d, .int .i64 e, .int .i64 f] : Array Value).size ∧ w'.heap[(w.heap.size + 1 + 1)]? = some (.cells cq_ 25 (0, 0))) ∧ Hid (Below w.heap.size w w')) (fun k w1' w2' => (k ≠ 2 → w2'.heap[(w.heap.size + 1)]? = w1'.heap[(w.heap.size + 1)]?) ∧ (k ≠ 3 → w2'.heap[(w.heap.size + 1 + 1)]? = w1'.heap[(w.heap.size + 1 + 1)]?)) (fun k => ([fun s_ w_ => (s_ 81) = .agg #[.int .i64 a, .int .i64 b, .int .i64 c, .int .i64 m0, .int .i64 e, .int .i64 f], fun s_ w_ => (s_ 82) = .agg #[.int .i64 (m0 + 1), .int .i64 b, .int .i64 c, .int .i64 d, .int .i64 e, .int .i64 f], fun s_ w_ => w_.heap[(w.heap.size + 1)]? = some (.cells #[.int .i64 a, .int .i64 b, .int .i64 c, .int .i64 m0, .int .i64 e, .int .i64 f] 25 (0, 0)), fun s_ w_ => w_.heap[(w.heap.size + 1 + 1)]? = some (.cells #[.int .i64 (m0 + 1), .int .i64 b, .int .i64 c, .int .i64 d, .int .i64 e, .int .i64 f] 25 (0, 0)), fun s_ w_ => (s_ 4) = .bool true] : List ((Nat → Value) → World → Prop)).getD k (fun _ _ => True)) _ (fun σ => by simp only [Inv.putAll, List.foldl_cons, List.foldl_nil, Act.put, List.setIfInBounds_toArray, List.set_cons_zero, List.set_cons_succ]; rfl) (by kernel_rfl) (by kernel_rfl) ?_ ⟨zp, zq, ⟨#[.int .i64 0, .int .i64 0, .int .i64 0, .int .i64 0, .int .i64 0, .int .i64 0], rfl, z2.out⟩, ⟨#[.int .i64 0, .int .i64 0, .int .i64 0, .int .i64 0, .int .i64 0, .int .i64 0], rfl, z3.out⟩, Lib.hid (Below.drew z4.out)⟩ ?_ ?_ 0 #[true, true, true, true, true] (by kernel_rfl) (by kernel_rfl) ?_
    · intro j k oj σ v w1 w2 hoj hlj hjk hdp hv hr
      rcases k with _ | k
      · have hS : oj.dst ≠ some 81 := by
          clear hv hr
          rcases j with _ | _ | _ | _ | _ | j
          all_goals first | exact absurd rfl hjk | exact absurd hdp (by decide +kernel) | (simp only [List.getElem?_toArray, List.getElem?_cons_zero, List.getElem?_cons_succ, Option.some.injEq] at hoj; subst hoj; decide) | exact absurd (Array.getElem?_eq_some_iff.1 hoj).1 (by simp)
        simp only [List.getD_cons_zero, List.getD_cons_succ, InvS.updo_ne hS] at hv ⊢
        exact hv
      rcases k with _ | k
      · have hS : oj.dst ≠ some 82 := by
          clear hv hr
          rcases j with _ | _ | _ | _ | _ | j
          all_goals first | exact absurd rfl hjk | exact absurd hdp (by decide +kernel) | (simp only [List.getElem?_toArray, List.getElem?_cons_zero, List.getElem?_cons_succ, Option.some.injEq] at hoj; subst hoj; decide) | exact absurd (Array.getElem?_eq_some_iff.1 hoj).1 (by simp)
        simp only [List.getD_cons_zero, List.getD_cons_succ, InvS.updo_ne hS] at hv ⊢
        exact hv
      rcases k with _ | k
      · skip
        exact ((hr.1 hjk).trans hv)
      rcases k with _ | k
      · skip
        exact ((hr.2 hjk).trans hv)
      rcases k with _ | k
      · have hS : oj.dst ≠ some 4 := by
          clear hv hr
          rcases j with _ | _ | _ | _ | _ | j
          all_goals first | exact absurd rfl hjk | exact absurd hdp (by decide +kernel) | (simp only [List.getElem?_toArray, List.getElem?_cons_zero, List.getElem?_cons_succ, Option.some.injEq] at hoj; subst hoj; decide) | exact absurd (Array.getElem?_eq_some_iff.1 hoj).1 (by simp)
        simp only [List.getD_cons_zero, List.getD_cons_succ, InvS.updo_ne hS] at hv ⊢
        exact hv
      · exact trivial
    · intro k hl
      rcases k with _ | k
      · exact absurd hl (by decide +kernel)
      rcases k with _ | k
      · exact absurd hl (by decide +kernel)
      rcases k with _ | k
      · exact absurd hl (by decide +kernel)
      rcases k with _ | k
      · exact absurd hl (by decide +kernel)
      rcases k with _ | k
      · exact absurd hl (by decide +kernel)
      · exact trivial
    · show InvS.Steps _ _ _ _ _ _ _ _ [0, 1, 2, 3, 4]
      refine InvS.Steps.go (by decide) (by rfl) (fun σ wx hw hd K hK => ?_) ?_
      · simp only [List.getElem_toArray, List.getElem_cons_zero, List.getElem_cons_succ, Act.put, List.setIfInBounds_toArray, List.set_cons_zero, List.set_cons_succ] at hK ⊢
        obtain ⟨zp, zq, ⟨x2, X2, z2⟩, ⟨x3, X3, z3⟩, zb⟩ := hw
        refine wp_load_row 25 (.tmp 9) rfl p rfl 25 #[.int .i64 a, .int .i64 b, .int .i64 c, .int .i64 m0, .int .i64 e, .int .i64 f] (0, 0) _ zp.out rfl rfl rfl ?_
        simp only [Act.put, List.setIfInBounds_toArray, List.set_cons_zero, List.set_cons_succ]
        exact hK.out _ _ ⟨zp, zq, ⟨x2, X2, z2⟩, ⟨x3, X3, z3⟩, zb⟩ ⟨fun _ => rfl, fun _ => rfl⟩ (by rfl)
      refine InvS.Steps.go (by decide) (by rfl) (fun σ wx hw hd K hK => ?_) ?_
      · simp only [List.getElem_toArray, List.getElem_cons_zero, List.getElem_cons_succ, Act.put, List.setIfInBounds_toArray, List.set_cons_zero, List.set_cons_succ] at hK ⊢
        obtain ⟨zp, zq, ⟨x2, X2, z2⟩, ⟨x3, X3, z3⟩, zb⟩ := hw
        refine wp_load_row 25 (.tmp 10) rfl q rfl 25 #[.int .i64 (m0 + 1), .int .i64 b, .int .i64 c, .int .i64 d, .int .i64 e, .int .i64 f] (0, 0) _ zq.out rfl rfl rfl ?_
        simp only [Act.put, List.setIfInBounds_toArray, List.set_cons_zero, List.set_cons_succ]
        exact hK.out _ _ ⟨zp, zq, ⟨x2, X2, z2⟩, ⟨x3, X3, z3⟩, zb⟩ ⟨fun _ => rfl, fun _ => rfl⟩ (by rfl)
      refine InvS.Steps.go (by decide) (by rfl) (fun σ wx hw hd K hK => ?_) ?_
      · obtain e81 : (σ 81) = .agg #[.int .i64 a, .int .i64 b, .int .i64 c, .int .i64 m0, .int .i64 e, .int .i64 f] := hd 0 (some 81) (by kernel_rfl) (by rfl)
        simp only [List.getElem_toArray, List.getElem_cons_zero, List.getElem_cons_succ, Act.put, List.setIfInBounds_toArray, List.set_cons_zero, List.set_cons_succ, e81] at hK ⊢
        obtain ⟨zp, zq, ⟨x2, X2, z2⟩, ⟨x3, X3, z3⟩, zb⟩ := hw
        refine wp_store_row 25 (.tmp 2) (.tmp 81) rfl (w.heap.size + 1) #[.int .i64 a, .int .i64 b, .int .i64 c, .int .i64 m0, .int .i64 e, .int .i64 f] rfl rfl 25 x2 z2 rfl X2 (by simp [Value.oneCell']) ?_
        simp only [Act.put, List.setIfInBounds_toArray, List.set_cons_zero, List.set_cons_succ]
        exact hK.out undef _ ⟨Lib.hid ((setRow_other _ _ _ _ n2p).trans zp.out), Lib.hid ((setRow_other _ _ _ _ n2q).trans zq.out), ⟨_, rfl, setRow_heap _ _ _ _ _ _ z2⟩, ⟨x3, X3, (setRow_other _ _ _ _ n32).trans z3⟩, Lib.hid (below_setRow zb.out h2b _)⟩ ⟨fun h => absurd rfl h, fun _ => setRow_other _ _ _ _ n32⟩ (setRow_heap _ _ _ _ _ _ z2)
      refine InvS.Steps.go (by decide) (by rfl) (fun σ wx hw hd K hK => ?_) ?_
      · obtain e82 : (σ 82) = .agg #[.int .i64 (m0 + 1), .int .i64 b, .int .i64 c, .int .i64 d, .int .i64 e, .int .i64 f] := hd 1 (some 82) (by kernel_rfl) (by rfl)
        simp only [List.getElem_toArray, List.getElem_cons_zero, List.getElem_cons_succ, Act.put, List.setIfInBounds_toArray, List.set_cons_zero, List.set_cons_succ, e82] at hK ⊢
        obtain ⟨zp, zq, ⟨x2, X2, z2⟩, ⟨x3, X3, z3⟩, zb⟩ := hw
        refine wp_store_row 25 (.tmp 3) (.tmp 82) rfl (w.heap.size + 1 + 1) #[.int .i64 (m0 + 1), .int .i64 b, .int .i64 c, .int .i64 d, .int .i64 e, .int .i64 f] rfl rfl 25 x3 z3 rfl X3 (by simp [Value.oneCell']) ?_
        simp only [Act.put, List.setIfInBounds_toArray, List.set_cons_zero, List.set_cons_succ]
        exact hK.out undef _ ⟨Lib.hid ((setRow_other _ _ _ _ n3p).trans zp.out), Lib.hid ((setRow_other _ _ _ _ n3q).trans zq.out), ⟨x2, X2, (setRow_other _ _ _ _ n23).trans z2⟩, ⟨_, rfl, setRow_heap _ _ _ _ _ _ z3⟩, Lib.hid (below_setRow zb.out h3b _)⟩ ⟨fun _ => setRow_other _ _ _ _ n23, fun h => absurd rfl h⟩ (setRow_heap _ _ _ _ _ _ z3)
      refine InvS.Steps.go (by decide) (by rfl) (fun σ wx hw hd K hK => ?_) ?_
      · simp only [List.getElem_toArray, List.getElem_cons_zero, List.getElem_cons_succ, Act.put, List.setIfInBounds_toArray, List.set_cons_zero, List.set_cons_succ] at hK ⊢
        go_simp
        exact hK.out _ _ hw ⟨fun _ => rfl, fun _ => rfl⟩ (by rfl)
      exact InvS.Steps.nil
    · intro σ wx hw hd
      obtain E2 : wx.heap[(w.heap.size + 1)]? = some (.cells #[.int .i64 a, .int .i64 b, .int .i64 c, .int .i64 m0, .int .i64 e, .int .i64 f] 25 (0, 0)) := hd 2 (by decide) (by rfl)
      obtain E3 : wx.heap[(w.heap.size + 1 + 1)]? = some (.cells #[.int .i64 (m0 + 1), .int .i64 b, .int .i64 c, .int .i64 d, .int .i64 e, .int .i64 f] 25 (0, 0)) := hd 3 (by decide) (by rfl)
      obtain e4 : (σ 4) = .bool true := hd 4 (by decide) (by rfl)
      obtain ⟨_, _, _, _, zb⟩ := hw
      simp only [e4]
      clear hd
      refine Inv.done (by kernel_rfl) (NoPanic.normal ?_)
      go_wp2
      exact bodyPost_ret (results_two_rows_tmp rfl _ _ (w.heap.size + 1) (w.heap.size + 1 + 1) _ _ _ _ _ _ _ _ rfl E2 rfl (by rfl) rfl rfl E3 rfl (by rfl) rfl) rfl ⟨rfl, zb.out⟩
set_option maxHeartbeats 8000000 in
set_option maxRecDepth 100000 in
theorem rsplit_B (a b c d e f : Int) (h : bvB a b c d e f = true) (h2 : 2 ≤ pts a b c d e f) (k1 : e - b ≤ d - a) (k2 : d - a < f - c) (w : World) :
    Calls Try.prog 12 #[.agg #[.int .i64 a, .int .i64 b, .int .i64 c, .int .i64 d, .int .i64 e, .int .i64 f]] w fun r w' => r = .returned (.tuple #[.agg #[.int .i64 a, .int .i64 b, .int .i64 c, .int .i64 d, .int .i64 e, .int .i64 (c + (f - c) / 2)], .agg #[.int .i64 a, .int .i64 b, .int .i64 ((c + (f - c) / 2) + 1), .int .i64 d, .int .i64 e, .int .i64 f], .bool true]) ∧ Below w.heap.size w w' := by
  have P := Lib.hid fun w => rpoints_2 a b c d e f h w
  have C := Lib.hid fun w => rcenter_2 a b c d e f h w
  obtain ⟨⟨ax0, ax1, ay0, ay1, az0, az1⟩, ⟨dx0, dx1, dy0, dy1, dz0, dz1⟩, hx, hy, hz⟩ := bvB_yes h
  clear h
  generalize pts a b c d e f = np at *
  obtain ⟨m0, hm0⟩ : ∃ m, m = a + (d - a) / 2 := ⟨_, rfl⟩
  obtain ⟨m1, hm1⟩ : ∃ m, m = b + (e - b) / 2 := ⟨_, rfl⟩
  obtain ⟨m2, hm2⟩ : ∃ m, m = c + (f - c) / 2 := ⟨_, rfl⟩
  rw [← hm0, ← hm1, ← hm2] at C
  rw [← hm2]
  have b0 : a ≤ m0 ∧ m0 ≤ d := by omega
  have b1 : b ≤ m1 ∧ m1 ≤ e := by omega
  have b2 : c ≤ m2 ∧ m2 ≤ f := by omega
  clear hm0 hm1 hm2
  have p1 := Lib.hid (blk_alloc (blk_alloc (blk_new w (.cells #[.int .i64 a, .int .i64 b, .int .i64 c, .int .i64 d, .int .i64 e, .int .i64 f] 25)) (.cells #[.int .i64 0, .int .i64 0, .int .i64 0, .int .i64 0, .int .i64 0, .int .i64 0] 25)) (.cells #[.int .i64 0, .int .i64 0, .int .i64 0, .int .i64 0, .int .i64 0, .int .i64 0] 25))
  have p2 := Lib.hid (blk_alloc (blk_new1 w (.cells #[.int .i64 a, .int .i64 b, .int .i64 c, .int .i64 d, .int .i64 e, .int .i64 f] 25) (.cells #[.int .i64 0, .int .i64 0, .int .i64 0, .int .i64 0, .int .i64 0, .int .i64 0] 25)) (.cells #[.int .i64 0, .int .i64 0, .int .i64 0, .int .i64 0, .int .i64 0, .int .i64 0] 25))
  have p3 := Lib.hid (blk_new2 w (.cells #[.int .i64 a, .int .i64 b, .int .i64 c, .int .i64 d, .int .i64 e, .int .i64 f] 25) (.cells #[.int .i64 0, .int .i64 0, .int .i64 0, .int .i64 0, .int .i64 0, .int .i64 0] 25) (.cells #[.int .i64 0, .int .i64 0, .int .i64 0, .int .i64 0, .int .i64 0, .int .i64 0] 25))
  have hA := Lib.hid (Buf.then_ (Buf.then_ (new_block (w := w) (.cells #[.int .i64 a, .int .i64 b, .int .i64 c, .int .i64 d, .int .i64 e, .int .i64 f] 25)) (new_block (.cells #[.int .i64 0, .int .i64 0, .int .i64 0, .int .i64 0, .int .i64 0, .int .i64 0] 25))) (new_block (.cells #[.int .i64 0, .int .i64 0, .int .i64 0, .int .i64 0, .int .i64 0, .int .i64 0] 25)))
  go_enter Try.func12, Try.ntmps12
  go_wp2_with fail
  with_reducible refine (P.out _).mono ?_
  rintro r w1 ⟨rfl, hb⟩
  replace p1 := Lib.hid (blk_b hb p1.out)
  replace p2 := Lib.hid (blk_b hb p2.out)
  replace p3 := Lib.hid (blk_b hb p3.out)
  replace hA := Lib.hid (Buf.then_ hA.out hb)
  clear hb
  obtain ⟨u1, u2, u3, u4, u5, u6⟩ := cells6 p1.out
  go_wp2_with fail
  go_quiet (fail)
  go_wp2_with fail
  with_reducible refine (C.out _).mono ?_
  rintro r w3 ⟨rfl, hb⟩
  replace hb : Below w1.heap.size w1 w3 := Buf.then_ (Buf.below_drewN (Below.refl _ _) _) hb
  replace p1 := Lib.hid (blk_b hb p1.out)
  replace p2 := Lib.hid (blk_b hb p2.out)
  replace p3 := Lib.hid (blk_b hb p3.out)
  replace hA := Lib.hid (Buf.then_ hA.out hb)
  clear hb u1 u2 u3 u4 u5 u6
  go_upto_region 5 with fail
  obtain ⟨w4, hw4⟩ : ∃ wz, wz = w3.alloc (.cells #[.int .i64 m0, .int .i64 m1, .int .i64 m2] 23) := ⟨_, rfl⟩
  obtain ⟨mb, hmb⟩ : ∃ z, z = w3.heap.size := ⟨_, rfl⟩
  have hb : Below w3.heap.size w3 w4 := by rw [hw4]; exact new_block _
  have km := Lib.hid (show w4.heap[mb]? = some (.cells #[.int .i64 m0, .int .i64 m1, .int .i64 m2] 23 (0, 0)) by rw [hw4, hmb]; exact blk_new w3 _)
  have hmb1 : w.heap.size + 2 < mb := by rw [hmb]; exact (Array.getElem?_eq_some_iff.1 p3.out).1
  have hmb2 : mb < w4.heap.size := (Array.getElem?_eq_some_iff.1 km.out).1
  rw [← hw4, ← hmb]
  replace p1 := Lib.hid (blk_b hb p1.out)
  replace p2 := Lib.hid (blk_b hb p2.out)
  replace p3 := Lib.hid (blk_b hb p3.out)
  replace hA := Lib.hid (Buf.then_ hA.out hb)
  clear hb hw4 hmb
  go_cut [9, 10] (fun v9 v10 wx => ∃ (p q : Nat) (wz : World), wz = wx ∧ p ≠ q ∧ w4.heap.size ≤ p ∧ w4.heap.size ≤ q ∧ v9 = .pointer (some ⟨p, 0, none⟩) ∧ v10 = .pointer (some ⟨q, 0, none⟩) ∧ Hid (wz.heap[p]? = some (.cells #[.int .i64 a, .int .i64 b, .int .i64 c, .int .i64 d, .int .i64 e, .int .i64 f] 25 (0, 0))) ∧ Hid (wz.heap[q]? = some (.cells #[.int .i64 a, .int .i64 b, .int .i64 c, .int .i64 d, .int .i64 e, .int .i64 f] 25 (0, 0))) ∧ Hid (Below w4.heap.size w4 wz))
  case first =>
    obtain ⟨u1, u2, u3, u4, u5, u6⟩ := cells6 p1.out
    have ne1 := World.new_ne w4 _ u1
    go_region_held3 (fun w' => w'.cell? ⟨w.heap.size, 0, none⟩ = some (.int .i64 a) ∧ w'.cell? ⟨w.heap.size, 1, none⟩ = some (.int .i64 b) ∧ w'.cell? ⟨w.heap.size, 2, none⟩ = some (.int .i64 c) ∧ w'.cell? ⟨w.heap.size, 3, none⟩ = some (.int .i64 d) ∧ w'.cell? ⟨w.heap.size, 4, none⟩ = some (.int .i64 e) ∧ w'.cell? ⟨w.heap.size, 5, none⟩ = some (.int .i64 f)) (go_keep) (fail)
    all_goals go_wp2_with fail
    all_goals go_meet
    · exact ⟨w4.heap.size, w4.heap.size + 1, _, rfl, by omega, by omega, by omega, rfl, rfl, Lib.hid (blk_alloc (blk_new w4 _) _), Lib.hid (blk_new1 w4 _ _), Lib.hid (Below.drew (Buf.then_ (new_block _) (new_block _)))⟩
    · exact ⟨w4.heap.size + 1, w4.heap.size, _, rfl, by omega, by omega, by omega, rfl, rfl, Lib.hid (blk_new1 w4 _ _), Lib.hid (blk_alloc (blk_new w4 _) _), Lib.hid (Below.drew (Buf.then_ (new_block _) (new_block _)))⟩
  case rest =>
    obtain ⟨p, q, wc, rfl, hpq, hp0, hq0, rfl, rfl, gp, gq, hb⟩ := hcut
    replace p2 := Lib.hid (blk_b hb.out p2.out)
    replace p3 := Lib.hid (blk_b hb.out p3.out)
    replace km := Lib.hid (blk_b hb.out km.out)
    replace hA := Lib.hid (Buf.then_ hA.out hb.out)
    clear hb p1
    obtain ⟨c1, c2, c3, _, _, _⟩ := cells3 km.out
    obtain ⟨g1, g2, g3, g4, g5, g6, g7, g8, g9, g10, g11, g12⟩ := cells6f gp.out
    obtain ⟨i1, i2, i3, i4, i5, i6, i7, i8, i9, i10, i11, i12⟩ := cells6f gq.out
    have hqp : q ≠ p := Ne.symm hpq
    have hmp : p ≠ mb := by omega
    have d1 : (wc.setCell ⟨p, 5, none⟩ (.int .i64 m2)).cell? ⟨mb, 2, none⟩ = some (.int .i64 m2) := by rw [World.cell?_setCell_far _ _ _ _ hmp]; exact c3
    have d2 : (wc.setCell ⟨p, 5, none⟩ (.int .i64 m2)).cell? ⟨q, 2, none⟩ = some (.int .i64 c) := by rw [World.cell?_setCell_far _ _ _ _ hpq]; exact i3
    have d3 : (wc.setCell ⟨p, 5, none⟩ (.int .i64 m2)).frozen? ⟨q, 2, none⟩ = false := by rw [World.frozen?_setCell]; exact i9
    go_wp2_with fail
    go_region
    obtain ⟨wz, hwz⟩ : ∃ wz, wz = ((wc.setCell ⟨p, 5, none⟩ (.int .i64 m2)).setCell ⟨q, 2, none⟩ (.int .i64 (m2 + 1))).drew := ⟨_, rfl⟩
    have zp : wz.heap[p]? = some (.cells #[.int .i64 a, .int .i64 b, .int .i64 c, .int .i64 d, .int .i64 e, .int .i64 m2] 25 (0, 0)) := by rw [hwz, HD, Below.heap_setCell _ _ _ p (by simpa using hpq)]; exact (heap_setCell_same _ p 5 _ _ _ gp.out).trans rfl
    have zq : wz.heap[q]? = some (.cells #[.int .i64 a, .int .i64 b, .int .i64 (m2 + 1), .int .i64 d, .int .i64 e, .int .i64 f] 25 (0, 0)) := by rw [hwz, HD]; exact (heap_setCell_same _ q 2 _ _ _ ((Below.heap_setCell _ _ _ q (by simpa using hqp)).trans gq.out)).trans rfl
    have z2 : wz.heap[w.heap.size + 1]? = some (.cells #[.int .i64 0, .int .i64 0, .int .i64 0, .int .i64 0, .int .i64 0, .int .i64 0] 25 (0, 0)) := by rw [hwz, HD, Below.heap_setCell _ _ _ _ (by simp; omega), Below.heap_setCell _ _ _ _ (by simp; omega)]; exact p2.out
    have z3 : wz.heap[w.heap.size + 1 + 1]? = some (.cells #[.int .i64 0, .int .i64 0, .int .i64 0, .int .i64 0, .int .i64 0, .int .i64 0] 25 (0, 0)) := by rw [hwz, HD, Below.heap_setCell _ _ _ _ (by simp; omega), Below.heap_setCell _ _ _ _ (by simp; omega)]; exact p3.out
    have z4 : Below w.heap.size w wz := by rw [hwz]; exact Below.drew ((hA.out.setCell (by simp; omega) _).setCell (by simp; omega) _)
    rw [← hwz]
    clear hwz c1 c2 c3 g1 g2 g3 g4 g5 g6 g7 g8 g9 g10 g11 g12 i1 i2 i3 i4 i5 i6 i7 i8 i9 i10 i11 i12 d1 d2 d3 gp gq p2 p3 hA km
    have n2p : p ≠ w.heap.size + 1 := by omega
    have n2q : q ≠ w.heap.size + 1 := by omega
    have n3p : p ≠ w.heap.size + 1 + 1 := by omega
    have n3q : q ≠ w.heap.size + 1 + 1 := by omega
    have n23 : w.heap.size + 1 ≠ w.heap.size + 1 + 1 := by omega
    have n32 : w.heap.size + 1 + 1 ≠ w.heap.size + 1 := by omega
    have h2b : w.heap.size ≤ w.heap.size + 1 := by omega
    have h3b : w.heap.size ≤ w.heap.size + 1 + 1 := by omega
    clear hp0 hq0 hpq hqp hmp
    replace zp := Lib.hid zp
    replace zq := Lib.hid zq
    replace z2 := Lib.hid z2
    replace z3 := Lib.hid z3
    replace z4 := Lib.hid z4
    go_wp2_with fail
    refine wp_region_noPanic ?_
    refine wp_region_any (by kernel_rfl) ?_
    refine InvS.wpAny_inv (fun k => false) [81, 82, 4] (fun w' => Hid (w'.heap[p]? = some (.cells #[.int .i64 a, .int .i64 b, .int .i64 c, .int .i64 d, .int .i64 e, .int .i64 m2] 25 (0, 0))) ∧ Hid (w'.heap[q]? = some (.cells #[.int .i64 a, .int .i64 b, .int .i64 (m2 + 1), .int .i64 d, .int .i64 e, .int .i64 f] 25 (0, 0))) ∧ (∃ cq_ : Array Value, cq_.size = (#[.int .i64 a, .int .i64 b, .int .i64 c, .int .i64 d, .int .i64 e, .int .i64 m2] : Array Value).size ∧ w'.heap[(w.heap.size + 1)]? = some (.cells cq_ 25 (0, 0))) ∧ (∃ cq_ : Array Value, cq_.size = (#[.int .i64 a, .int .i64 b, .int .i64 (m2 + 1), .int .i64 d, .int .i64 e, .int .i64 f] : Array Value).size ∧ w'.heap[(w.heap.size + 1 + 1)]? = some (.cells cq_ 25 (0, 0))) ∧ Hid (Below w.heap.size w w')) (fun k w1' w2' => (k ≠ 2 → w2'.heap[(w.heap.size + 1)]? = w1'.heap[(w.heap.size + 1)]?) ∧ (k ≠ 3 → w2'.heap[(w.heap.size + 1 + 1)]? = w1'.heap[(w.heap.size + 1 + 1)]?)) (fun k => ([fun s_ w_ => (s_ 81) = .agg #[.int .i64 a, .int .i64 b, .int .i64 c, .int .i64 d, .int .i64 e, .int .i64 m2], fun s_ w_ => (s_ 82) = .agg #[.int .i64 a, .int .i64 b, .int .i64 (m2 + 1), .int .i64 d, .int .i64 e, .int .i64 f], fun s_ w_ => w_.heap[(w.heap.size + 1)]? = some (.cells #[.int .i64 a, .int .i64 b, .int .i64 c, .int .i64 d, .int .i64 e, .int .i64 m2] 25 (0, 0)), fun s_ w_ => w_.heap[(w.heap.size + 1 + 1)]? = some (.cells #[.int .i64 a, .int .i64 b, .int .i64 (m2 + 1), .int .i64 d, .int .i64 e, .int .i64 f] 25 (0, 0)), fun s_ w_ => (s_ 4) = .bool true] : List ((Nat → Value) → World → Prop)).getD k (fun _ _ => True)) _ (fun σ => by simp only [Inv.putAll, List.foldl_cons, List.foldl_nil, Act.put, List.setIfInBounds_toArray, List.set_cons_zero, List.set_cons_succ]; rfl) (by kernel_rfl) (by kernel_rfl) ?_ ⟨zp, zq, ⟨#[.int .i64 0, .int .i64 0, .int .i64 0, .int .i64 0, .int .i64 0, .int .i64 0], rfl, z2.out⟩, ⟨#[.int .i64 0, .int .i64 0, .int .i64 0, .int .i64 0, .int .i64 0, .int .i64 0], rfl, z3.out⟩, Lib.hid (Below.drew z4.out)⟩ ?_ ?_ 0 #[true, true, true, true, true] (by kernel_rfl) (by kernel_rfl) ?_
    · intro j k oj σ v w1 w2 hoj hlj hjk hdp hv hr
      rcases k with _ | k
      · have hS : oj.dst ≠ some 81 := by
          clear hv hr
          rcases j with _ | _ | _ | _ | _ | j
          all_goals first | exact absurd rfl hjk | exact absurd hdp (by decide +kernel) | (simp only [List.getElem?_toArray, List.getElem?_cons_zero, List.getElem?_cons_succ, Option.some.injEq] at hoj; subst hoj; decide) | exact absurd (Array.getElem?_eq_some_iff.1 hoj).1 (by simp)
        simp only [List.getD_cons_zero, List.getD_cons_succ, InvS.updo_ne hS] at hv ⊢
        exact hv
      rcases k with _ | k
      · have hS : oj.dst ≠ some 82 := by
          clear hv hr
          rcases j with _ | _ | _ | _ | _ | j
          all_goals first | exact absurd rfl hjk | exact absurd hdp (by decide +kernel) | (simp only [List.getElem?_toArray, List.getElem?_cons_zero, List.getElem?_cons_succ, Option.some.injEq] at hoj; subst hoj; decide) | exact absurd (Array.getElem?_eq_some_iff.1 hoj).1 (by simp)
        simp only [List.getD_cons_zero, List.getD_cons_succ, InvS.updo_ne hS] at hv ⊢
        exact hv
      rcases k with _ | k
      · skip
        exact ((hr.1 hjk).trans hv)
      rcases k with _ | k
      · skip
        exact ((hr.2 hjk).trans hv)
      rcases k with _ | k
      · have hS : oj.dst ≠ some 4 := by
          clear hv hr
          rcases j with _ | _ | _ | _ | _ | j
          all_goals first | exact absurd rfl hjk | exact absurd hdp (by decide +kernel) | (simp only [List.getElem?_toArray, List.getElem?_cons_zero, List.getElem?_cons_succ, Option.some.injEq] at hoj; subst hoj; decide) | exact absurd (Array.getElem?_eq_some_iff.1 hoj).1 (by simp)
        simp only [List.getD_cons_zero, List.getD_cons_succ, InvS.updo_ne hS] at hv ⊢
        exact hv
      · exact trivial
    · intro k hl
      rcases k with _ | k
      · exact absurd hl (by decide +kernel)
      rcases k with _ | k
      · exact absurd hl (by decide +kernel)
      rcases k with _ | k
      · exact absurd hl (by decide +kernel)
      rcases k with _ | k
      · exact absurd hl (by decide +kernel)
      rcases k with _ | k
      · exact absurd hl (by decide +kernel)
      · exact trivial
    · show InvS.Steps _ _ _ _ _ _ _ _ [0, 1, 2, 3, 4]
      refine InvS.Steps.go (by decide) (by rfl) (fun σ wx hw hd K hK => ?_) ?_
      · simp only [List.getElem_toArray, List.getElem_cons_zero, List.getElem_cons_succ, Act.put, List.setIfInBounds_toArray, List.set_cons_zero, List.set_cons_succ] at hK ⊢
        obtain ⟨zp, zq, ⟨x2, X2, z2⟩, ⟨x3, X3, z3⟩, zb⟩ := hw
        refine wp_load_row 25 (.tmp 9) rfl p rfl 25 #[.int .i64 a, .int .i64 b, .int .i64 c, .int .i64 d, .int .i64 e, .int .i64 m2] (0, 0) _ zp.out rfl rfl rfl ?_
        simp only [Act.put, List.setIfInBounds_toArray, List.set_cons_zero, List.set_cons_succ]
        exact hK.out _ _ ⟨zp, zq, ⟨x2, X2, z2⟩, ⟨x3, X3, z3⟩, zb⟩ ⟨fun _ => rfl, fun _ => rfl⟩ (by rfl)
      refine InvS.Steps.go (by decide) (by rfl) (fun σ wx hw hd K hK => ?_) ?_
      · simp only [List.getElem_toArray, List.getElem_cons_zero, List.getElem_cons_succ, Act.put, List.setIfInBounds_toArray, List.set_cons_zero, List.set_cons_succ] at hK ⊢
        obtain ⟨zp, zq, ⟨x2, X2, z2⟩, ⟨x3, X3, z3⟩, zb⟩ := hw
        refine wp_load_row 25 (.tmp 10) rfl q rfl 25 #[.int .i64 a, .int .i64 b, .int .i64 (m2 + 1), .int .i64 d, .int .i64 e, .int .i64 f] (0, 0) _ zq.out rfl rfl rfl ?_
        simp only [Act.put, List.setIfInBounds_toArray, List.set_cons_zero, List.set_cons_succ]
        exact hK.out _ _ ⟨zp, zq, ⟨x2, X2, z2⟩, ⟨x3, X3, z3⟩, zb⟩ ⟨fun _ => rfl, fun _ => rfl⟩ (by rfl)
      refine InvS.Steps.go (by decide) (by rfl) (fun σ wx hw hd K hK => ?_) ?_
      · obtain e81 : (σ 81) = .agg #[.int .i64 a, .int .i64 b, .int .i64 c, .int .i64 d, .int .i64 e, .int .i64 m2] := hd 0 (some 81) (by kernel_rfl) (by rfl)
        simp only [List.getElem_toArray, List.getElem_cons_zero, List.getElem_cons_succ, Act.put, List.setIfInBounds_toArray, List.set_cons_zero, List.set_cons_succ, e81] at hK ⊢
        obtain ⟨zp, zq, ⟨x2, X2, z2⟩, ⟨x3, X3, z3⟩, zb⟩ := hw
        refine wp_store_row 25 (.tmp 2) (.tmp 81) rfl (w.heap.size + 1) #[.int .i64 a, .int .i64 b, .int .i64 c, .int .i64 d, .int .i64 e, .int .i64 m2] rfl rfl 25 x2 z2 rfl X2 (by simp [Value.oneCell']) ?_
        simp only [Act.put, List.setIfInBounds_toArray, List.set_cons_zero, List.set_cons_succ]
        exact hK.out undef _ ⟨Lib.hid ((setRow_other _ _ _ _ n2p).trans zp.out), Lib.hid ((setRow_other _ _ _ _ n2q).trans zq.out), ⟨_, rfl, setRow_heap _ _ _ _ _ _ z2⟩, ⟨x3, X3, (setRow_other _ _ _ _ n32).trans z3⟩, Lib.hid (below_setRow zb.out h2b _)⟩ ⟨fun h => absurd rfl h, fun _ => setRow_other _ _ _ _ n32⟩ (setRow_heap _ _ _ _ _ _ z2)
      refine InvS.Steps.go (by decide) (by rfl) (fun σ wx hw hd K hK => ?_) ?_
      · obtain e82 : (σ 82) = .agg #[.int .i64 a, .int .i64 b, .int .i64 (m2 + 1), .int .i64 d, .int .i64 e, .int .i64 f] := hd 1 (some 82) (by kernel_rfl) (by rfl)
        simp only [List.getElem_toArray, List.getElem_cons_zero, List.getElem_cons_succ, Act.put, List.setIfInBounds_toArray, List.set_cons_zero, List.set_cons_succ, e82] at hK ⊢
        obtain ⟨zp, zq, ⟨x2, X2, z2⟩, ⟨x3, X3, z3⟩, zb⟩ := hw
        refine wp_store_row 25 (.tmp 3) (.tmp 82) rfl (w.heap.size + 1 + 1) #[.int .i64 a, .int .i64 b, .int .i64 (m2 + 1), .int .i64 d, .int .i64 e, .int .i64 f] rfl rfl 25 x3 z3 rfl X3 (by simp [Value.oneCell']) ?_
        simp only [Act.put, List.setIfInBounds_toArray, List.set_cons_zero, List.set_cons_succ]
        exact hK.out undef _ ⟨Lib.hid ((setRow_other _ _ _ _ n3p).trans zp.out), Lib.hid ((setRow_other _ _ _ _ n3q).trans zq.out), ⟨x2, X2, (setRow_other _ _ _ _ n23).trans z2⟩, ⟨_, rfl, setRow_heap _ _ _ _ _ _ z3⟩, Lib.hid (below_setRow zb.out h3b _)⟩ ⟨fun _ => setRow_other _ _ _ _ n23, fun h => absurd rfl h⟩ (setRow_heap _ _ _ _ _ _ z3)
      refine InvS.Steps.go (by decide) (by rfl) (fun σ wx hw hd K hK => ?_) ?_
      · simp only [List.getElem_toArray, List.getElem_cons_zero, List.getElem_cons_succ, Act.put, List.setIfInBounds_toArray, List.set_cons_zero, List.set_cons_succ] at hK ⊢
        go_simp
        exact hK.out _ _ hw ⟨fun _ => rfl, fun _ => rfl⟩ (by rfl)
      exact InvS.Steps.nil
    · intro σ wx hw hd
      obtain E2 : wx.heap[(w.heap.size + 1)]? = some (.cells #[.int .i64 a, .int .i64 b, .int .i64 c, .int .i64 d, .int .i64 e, .int .i64 m2] 25 (0, 0)) := hd 2 (by decide) (by rfl)
      obtain E3 : wx.heap[(w.heap.size + 1 + 1)]? = some (.cells #[.int .i64 a, .int .i64 b, .int .i64 (m2 + 1), .int .i64 d, .int .i64 e, .int .i64 f] 25 (0, 0)) := hd 3 (by decide) (by rfl)
      obtain e4 : (σ 4) = .bool true := hd 4 (by decide) (by rfl)
      obtain ⟨_, _, _, _, zb⟩ := hw
      simp only [e4]
      clear hd
      refine Inv.done (by kernel_rfl) (NoPanic.normal ?_)
      go_wp2
      exact bodyPost_ret (results_two_rows_tmp rfl _ _ (w.heap.size + 1) (w.heap.size + 1 + 1) _ _ _ _ _ _ _ _ rfl E2 rfl (by rfl) rfl rfl E3 rfl (by rfl) rfl) rfl ⟨rfl, zb.out⟩
set_option maxHeartbeats 8000000 in
set_option maxRecDepth 100000 in
theorem rsplit_C (a b c d e f : Int) (h : bvB a b c d e f = true) (h2 : 2 ≤ pts a b c d e f) (k1 : d - a < e - b) (k2 : f - c ≤ e - b) (w : World) :
    Calls Try.prog 12 #[.agg #[.int .i64 a, .int .i64 b, .int .i64 c, .int .i64 d, .int .i64 e, .int .i64 f]] w fun r w' => r = .returned (.tuple #[.agg #[.int .i64 a, .int .i64 b, .int .i64 c, .int .i64 d, .int .i64 (b + (e - b) / 2), .int .i64 f], .agg #[.int .i64 a, .int .i64 ((b + (e - b) / 2) + 1), .int .i64 c, .int .i64 d, .int .i64 e, .int .i64 f], .bool true]) ∧ Below w.heap.size w w' := by
  have P := Lib.hid fun w => rpoints_2 a b c d e f h w
  have C := Lib.hid fun w => rcenter_2 a b c d e f h w
  obtain ⟨⟨ax0, ax1, ay0, ay1, az0, az1⟩, ⟨dx0, dx1, dy0, dy1, dz0, dz1⟩, hx, hy, hz⟩ := bvB_yes h
  clear h
  generalize pts a b c d e f = np at *
  obtain ⟨m0, hm0⟩ : ∃ m, m = a + (d - a) / 2 := ⟨_, rfl⟩
  obtain ⟨m1, hm1⟩ : ∃ m, m = b + (e - b) / 2 := ⟨_, rfl⟩
  obtain ⟨m2, hm2⟩ : ∃ m, m = c + (f - c) / 2 := ⟨_, rfl⟩
  rw [← hm0, ← hm1, ← hm2] at C
  rw [← hm1]
  have b0 : a ≤ m0 ∧ m0 ≤ d := by omega
  have b1 : b ≤ m1 ∧ m1 ≤ e := by omega
  have b2 : c ≤ m2 ∧ m2 ≤ f := by omega
  clear hm0 hm1 hm2
  have p1 := Lib.hid (blk_alloc (blk_alloc (blk_new w (.cells #[.int .i64 a, .int .i64 b, .int .i64 c, .int .i64 d, .int .i64 e, .int .i64 f] 25)) (.cells #[.int .i64 0, .int .i64 0, .int .i64 0, .int .i64 0, .int .i64 0, .int .i64 0] 25)) (.cells #[.int .i64 0, .int .i64 0, .int .i64 0, .int .i64 0, .int .i64 0, .int .i64 0] 25))
  have p2 := Lib.hid (blk_alloc (blk_new1 w (.cells #[.int .i64 a, .int .i64 b, .int .i64 c, .int .i64 d, .int .i64 e, .int .i64 f] 25) (.cells #[.int .i64 0, .int .i64 0, .int .i64 0, .int .i64 0, .int .i64 0, .int .i64 0] 25)) (.cells #[.int .i64 0, .int .i64 0, .int .i64 0, .int .i64 0, .int .i64 0, .int .i64 0] 25))
  have p3 := Lib.hid (blk_new2 w (.cells #[.int .i64 a, .int .i64 b, .int .i64 c, .int .i64 d, .int .i64 e, .int .i64 f] 25) (.cells #[.int .i64 0, .int .i64 0, .int .i64 0, .int .i64 0, .int .i64 0, .int .i64 0] 25) (.cells #[.int .i64 0, .int .i64 0, .int .i64 0, .int .i64 0, .int .i64 0, .int .i64 0] 25))
  have hA := Lib.hid (Buf.then_ (Buf.then_ (new_block (w := w) (.cells #[.int .i64 a, .int .i64 b, .int .i64 c, .int .i64 d, .int .i64 e, .int .i64 f] 25)) (new_block (.cells #[.int .i64 0, .int .i64 0, .int .i64 0, .int .i64 0, .int .i64 0, .int .i64 0] 25))) (new_block (.cells #[.int .i64 0, .int .i64 0, .int .i64 0, .int .i64 0, .int .i64 0, .int .i64 0] 25)))
  go_enter Try.func12, Try.ntmps12
  go_wp2_with fail
  with_reducible refine (P.out _).mono ?_
  rintro r w1 ⟨rfl, hb⟩
  replace p1 := Lib.hid (blk_b hb p1.out)
  replace p2 := Lib.hid (blk_b hb p2.out)
  replace p3 := Lib.hid (blk_b hb p3.out)
  replace hA := Lib.hid (Buf.then_ hA.out hb)
  clear hb
  obtain ⟨u1, u2, u3, u4, u5, u6⟩ := cells6 p1.out
  go_wp2_with fail
  go_quiet (fail)
  go_wp2_with fail
  with_reducible refine (C.out _).mono ?_
  rintro r w3 ⟨rfl, hb⟩
  replace hb : Below w1.heap.size w1 w3 := Buf.then_ (Buf.below_drewN (Below.refl _ _) _) hb
  replace p1 := Lib.hid (blk_b hb p1.out)
  replace p2 := Lib.hid (blk_b hb p2.out)
  replace p3 := Lib.hid (blk_b hb p3.out)
  replace hA := Lib.hid (Buf.then_ hA.out hb)
  clear hb u1 u2 u3 u4 u5 u6
  go_upto_region 5 with fail
  obtain ⟨w4, hw4⟩ : ∃ wz, wz = w3.alloc (.cells #[.int .i64 m0, .int .i64 m1, .int .i64 m2] 23) := ⟨_, rfl⟩
  obtain ⟨mb, hmb⟩ : ∃ z, z = w3.heap.size := ⟨_, rfl⟩
  have hb : Below w3.heap.size w3 w4 := by rw [hw4]; exact new_block _
  have km := Lib.hid (show w4.heap[mb]? = some (.cells #[.int .i64 m0, .int .i64 m1, .int .i64 m2] 23 (0, 0)) by rw [hw4, hmb]; exact blk_new w3 _)
  have hmb1 : w.heap.size + 2 < mb := by rw [hmb]; exact (Array.getElem?_eq_some_iff.1 p3.out).1
  have hmb2 : mb < w4.heap.size := (Array.getElem?_eq_some_iff.1 km.out).1
  rw [← hw4, ← hmb]
  replace p1 := Lib.hid (blk_b hb p1.out)
  replace p2 := Lib.hid (blk_b hb p2.out)
  replace p3 := Lib.hid (blk_b hb p3.out)
  replace hA := Lib.hid (Buf.then_ hA.out hb)
  clear hb hw4 hmb
  go_cut [9, 10] (fun v9 v10 wx => ∃ (p q : Nat) (wz : World), wz = wx ∧ p ≠ q ∧ w4.heap.size ≤ p ∧ w4.heap.size ≤ q ∧ v9 = .pointer (some ⟨p, 0, none⟩) ∧ v10 = .pointer (some ⟨q, 0, none⟩) ∧ Hid (wz.heap[p]? = some (.cells #[.int .i64 a, .int .i64 b, .int .i64 c, .int .i64 d, .int .i64 e, .int .i64 f] 25 (0, 0))) ∧ Hid (wz.heap[q]? = some (.cells #[.int .i64 a, .int .i64 b, .int .i64 c, .int .i64 d, .int .i64 e, .int .i64 f] 25 (0, 0))) ∧ Hid (Below w4.heap.size w4 wz))
  case first =>
    obtain ⟨u1, u2, u3, u4, u5, u6⟩ := cells6 p1.out
    have ne1 := World.new_ne w4 _ u1
    go_region_held3 (fun w' => w'.cell? ⟨w.heap.size, 0, none⟩ = some (.int .i64 a) ∧ w'.cell? ⟨w.heap.size, 1, none⟩ = some (.int .i64 b) ∧ w'.cell? ⟨w.heap.size, 2, none⟩ = some (.int .i64 c) ∧ w'.cell? ⟨w.heap.size, 3, none⟩ = some (.int .i64 d) ∧ w'.cell? ⟨w.heap.size, 4, none⟩ = some (.int .i64 e) ∧ w'.cell? ⟨w.heap.size, 5, none⟩ = some (.int .i64 f)) (go_keep) (fail)
    all_goals go_wp2_with fail
    all_goals go_meet
    · exact ⟨w4.heap.size, w4.heap.size + 1, _, rfl, by omega, by omega, by omega, rfl, rfl, Lib.hid (blk_alloc (blk_new w4 _) _), Lib.hid (blk_new1 w4 _ _), Lib.hid (Below.drew (Buf.then_ (new_block _) (new_block _)))⟩
    · exact ⟨w4.heap.size + 1, w4.heap.size, _, rfl, by omega, by omega, by omega, rfl, rfl, Lib.hid (blk_new1 w4 _ _), Lib.hid (blk_alloc (blk_new w4 _) _), Lib.hid (Below.drew (Buf.then_ (new_block _) (new_block _)))⟩
  case rest =>
    obtain ⟨p, q, wc, rfl, hpq, hp0, hq0, rfl, rfl, gp, gq, hb⟩ := hcut
    replace p2 := Lib.hid (blk_b hb.out p2.out)
    replace p3 := Lib.hid (blk_b hb.out p3.out)
    replace km := Lib.hid (blk_b hb.out km.out)
    replace hA := Lib.hid (Buf.then_ hA.out hb.out)
    clear hb p1
    obtain ⟨c1, c2, c3, _, _, _⟩ := cells3 km.out
    obtain ⟨g1, g2, g3, g4, g5, g6, g7, g8, g9, g10, g11, g12⟩ := cells6f gp.out
    obtain ⟨i1, i2, i3, i4, i5, i6, i7, i8, i9, i10, i11, i12⟩ := cells6f gq.out
    have hqp : q ≠ p := Ne.symm hpq
    have hmp : p ≠ mb := by omega
    have d1 : (wc.setCell ⟨p, 4, none⟩ (.int .i64 m1)).cell? ⟨mb, 1, none⟩ = some (.int .i64 m1) := by rw [World.cell?_setCell_far _ _ _ _ hmp]; exact c2
    have d2 : (wc.setCell ⟨p, 4, none⟩ (.int .i64 m1)).cell? ⟨q, 1, none⟩ = some (.int .i64 b) := by rw [World.cell?_setCell_far _ _ _ _ hpq]; exact i2
    have d3 : (wc.setCell ⟨p, 4, none⟩ (.int .i64 m1)).frozen? ⟨q, 1, none⟩ = false := by rw [World.frozen?_setCell]; exact i8
    go_wp2_with fail
    go_region
    obtain ⟨wz, hwz⟩ : ∃ wz, wz = ((wc.setCell ⟨p, 4, none⟩ (.int .i64 m1)).setCell ⟨q, 1, none⟩ (.int .i64 (m1 + 1))).drew := ⟨_, rfl⟩
    have zp : wz.heap[p]? = some (.cells #[.int .i64 a, .int .i64 b, .int .i64 c, .int .i64 d, .int .i64 m1, .int .i64 f] 25 (0, 0)) := by rw [hwz, HD, Below.heap_setCell _ _ _ p (by simpa using hpq)]; exact (heap_setCell_same _ p 4 _ _ _ gp.out).trans rfl
    have zq : wz.heap[q]? = some (.cells #[.int .i64 a, .int .i64 (m1 + 1), .int .i64 c, .int .i64 d, .int .i64 e, .int .i64 f] 25 (0, 0)) := by rw [hwz, HD]; exact (heap_setCell_same _ q 1 _ _ _ ((Below.heap_setCell _ _ _ q (by simpa using hqp)).trans gq.out)).trans rfl
    have z2 : wz.heap[w.heap.size + 1]? = some (.cells #[.int .i64 0, .int .i64 0, .int .i64 0, .int .i64 0, .int .i64 0, .int .i64 0] 25 (0, 0)) := by rw [hwz, HD, Below.heap_setCell _ _ _ _ (by simp; omega), Below.heap_setCell _ _ _ _ (by simp; omega)]; exact p2.out
    have z3 : wz.heap[w.heap.size + 1 + 1]? = some (.cells #[.int .i64 0, .int .i64 0, .int .i64 0, .int .i64 0, .int .i64 0, .int .i64 0] 25 (0, 0)) := by rw [hwz, HD, Below.heap_setCell _ _ _ _ (by simp; omega), Below.heap_setCell _ _ _ _ (by simp; omega)]; exact p3.out
    have z4 : Below w.heap.size w wz := by rw [hwz]; exact Below.drew ((hA.out.setCell (by simp; omega) _).setCell (by simp; omega) _)
    rw [← hwz]
    clear hwz c1 c2 c3 g1 g2 g3 g4 g5 g6 g7 g8 g9 g10 g11 g12 i1 i2 i3 i4 i5 i6 i7 i8 i9 i10 i11 i12 d1 d2 d3 gp gq p2 p3 hA km
    have n2p : p ≠ w.heap.size + 1 := by omega
    have n2q : q ≠ w.heap.size + 1 := by omega
    have n3p : p ≠ w.heap.size + 1 + 1 := by omega
    have n3q : q ≠ w.heap.size + 1 + 1 := by omega
    have n23 : w.heap.size + 1 ≠ w.heap.size + 1 + 1 := by omega
    have n32 : w.heap.size + 1 + 1 ≠ w.heap.size + 1 := by omega
    have h2b : w.heap.size ≤ w.heap.size + 1 := by omega
    have h3b : w.heap.size ≤ w.heap.size + 1 + 1 := by omega
    clear hp0 hq0 hpq hqp hmp
    replace zp := Lib.hid zp
    replace zq := Lib.hid zq
    replace z2 := Lib.hid z2
    replace z3 := Lib.hid z3
    replace z4 := Lib.hid z4
    go_wp2_with fail
    refine wp_region_noPanic ?_
    refine wp_region_any (by kernel_rfl) ?_
    refine InvS.wpAny_inv (fun k => false) [81, 82, 4] (fun w' => Hid (w'.heap[p]? = some (.cells #[.int .i64 a, .int .i64 b, .int .i64 c, .int .i64 d, .int .i64 m1, .int .i64 f] 25 (0, 0))) ∧ Hid (w'.heap[q]? = some (.cells #[.int .i64 a, .int .i64 (m1 + 1), .int .i64 c, .int .i64 d, .int .i64 e, .int .i64 f] 25 (0, 0))) ∧ (∃ cq_ : Array Value, cq_.size = (#[.int .i64 a, .int .i64 b, .int .i64 c, .int .i64 d, .int .i64 m1, .int .i64 f] : Array Value).size ∧ w'.heap[(w.heap.size + 1)]? = some (.cells cq_ 25 (0, 0))) ∧ (∃ cq_ : Array Value, cq_.size = (#[.int .i64 a, .int .i64 (m1 + 1), .int .i64 c, .int .i64 d, .int .i64 e, .int .i64 f] : Array Value).size ∧ w'.heap[(w.heap.size + 1 + 1)]? = some (.cells cq_ 25 (0, 0))) ∧ Hid (Below w.heap.size w w')) (fun k w1' w2' => (k ≠ 2 → w2'.heap[(w.heap.size + 1)]? = w1'.heap[(w.heap.size + 1)]?) ∧ (k ≠ 3 → w2'.heap[(w.heap.size + 1 + 1)]? = w1'.heap[(w.heap.size + 1 + 1)]?)) (fun k => ([fun s_ w_ => (s_ 81) = .agg #[.int .i64 a, .int .i64 b, .int .i64 c, .int .i64 d, .int .i64 m1, .int .i64 f], fun s_ w_ => (s_ 82) = .agg #[.int .i64 a, .int .i64 (m1 + 1), .int .i64 c, .int .i64 d, .int .i64 e, .int .i64 f], fun s_ w_ => w_.heap[(w.heap.size + 1)]? = some (.cells #[.int .i64 a, .int .i64 b, .int .i64 c, .int .i64 d, .int .i64 m1, .int .i64 f] 25 (0, 0)), fun s_ w_ => w_.heap[(w.heap.size + 1 + 1)]? = some (.cells #[.int .i64 a, .int .i64 (m1 + 1), .int .i64 c, .int .i64 d, .int .i64 e, .int .i64 f] 25 (0, 0)), fun s_ w_ => (s_ 4) = .bool true] : List ((Nat → Value) → World → Prop)).getD k (fun _ _ => True)) _ (fun σ => by simp only [Inv.putAll, List.foldl_cons, List.foldl_nil, Act.put, List.setIfInBounds_toArray, List.set_cons_zero, List.set_cons_succ]; rfl) (by kernel_rfl) (by kernel_rfl) ?_ ⟨zp, zq, ⟨#[.int .i64 0, .int .i64 0, .int .i64 0, .int .i64 0, .int .i64 0, .int .i64 0], rfl, z2.out⟩, ⟨#[.int .i64 0, .int .i64 0, .int .i64 0, .int .i64 0, .int .i64 0, .int .i64 0], rfl, z3.out⟩, Lib.hid (Below.drew z4.out)⟩ ?_ ?_ 0 #[true, true, true, true, true] (by kernel_rfl) (by kernel_rfl) ?_
    · intro j k oj σ v w1 w2 hoj hlj hjk hdp hv hr
      rcases k with _ | k
      · have hS : oj.dst ≠ some 81 := by
          clear hv hr
          rcases j with _ | _ | _ | _ | _ | j
          all_goals first | exact absurd rfl hjk | exact absurd hdp (by decide +kernel) | (simp only [List.getElem?_toArray, List.getElem?_cons_zero, List.getElem?_cons_succ, Option.some.injEq] at hoj; subst hoj; decide) | exact absurd (Array.getElem?_eq_some_iff.1 hoj).1 (by simp)
        simp only [List.getD_cons_zero, List.getD_cons_succ, InvS.updo_ne hS] at hv ⊢
        exact hv
      rcases k with _ | k
      · have hS : oj.dst ≠ some 82 := by
          clear hv hr
          rcases j with _ | _ | _ | _ | _ | j
          all_goals first | exact absurd rfl hjk | exact absurd hdp (by decide +kernel) | (simp only [List.getElem?_toArray, List.getElem?_cons_zero, List.getElem?_cons_succ, Option.some.injEq] at hoj; subst hoj; decide) | exact absurd (Array.getElem?_eq_some_iff.1 hoj).1 (by simp)
        simp only [List.getD_cons_zero, List.getD_cons_succ, InvS.updo_ne hS] at hv ⊢
        exact hv
      rcases k with _ | k
      · skip
        exact ((hr.1 hjk).trans hv)
      rcases k with _ | k
      · skip
        exact ((hr.2 hjk).trans hv)
      rcases k with _ | k
      · have hS : oj.dst ≠ some 4 := by
          clear hv hr
          rcases j with _ | _ | _ | _ | _ | j
          all_goals first | exact absurd rfl hjk | exact absurd hdp (by decide +kernel) | (simp only [List.getElem?_toArray, List.getElem?_cons_zero, List.getElem?_cons_succ, Option.some.injEq] at hoj; subst hoj; decide) | exact absurd (Array.getElem?_eq_some_iff.1 hoj).1 (by simp)
        simp only [List.getD_cons_zero, List.getD_cons_succ, InvS.updo_ne hS] at hv ⊢
        exact hv
      · exact trivial
    · intro k hl
      rcases k with _ | k
      · exact absurd hl (by decide +kernel)
      rcases k with _ | k
      · exact absurd hl (by decide +kernel)
      rcases k with _ | k
      · exact absurd hl (by decide +kernel)
      rcases k with _ | k
      · exact absurd hl (by decide +kernel)
      rcases k with _ | k
      · exact absurd hl (by decide +kernel)
      · exact trivial
    · show InvS.Steps _ _ _ _ _ _ _ _ [0, 1, 2, 3, 4]
      refine InvS.Steps.go (by decide) (by rfl) (fun σ wx hw hd K hK => ?_) ?_
      · simp only [List.getElem_toArray, List.getElem_cons_zero, List.getElem_cons_succ, Act.put, List.setIfInBounds_toArray, List.set_cons_zero, List.set_cons_succ] at hK ⊢
        obtain ⟨zp, zq, ⟨x2, X2, z2⟩, ⟨x3, X3, z3⟩, zb⟩ := hw
        refine wp_load_row 25 (.tmp 9) rfl p rfl 25 #[.int .i64 a, .int .i64 b, .int .i64 c, .int .i64 d, .int .i64 m1, .int .i64 f] (0, 0) _ zp.out rfl rfl rfl ?_
        simp only [Act.put, List.setIfInBounds_toArray, List.set_cons_zero, List.set_cons_succ]
        exact hK.out _ _ ⟨zp, zq, ⟨x2, X2, z2⟩, ⟨x3, X3, z3⟩, zb⟩ ⟨fun _ => rfl, fun _ => rfl⟩ (by rfl)
      refine InvS.Steps.go (by decide) (by rfl) (fun σ wx hw hd K hK => ?_) ?_
      · simp only [List.getElem_toArray, List.getElem_cons_zero, List.getElem_cons_succ, Act.put, List.setIfInBounds_toArray, List.set_cons_zero, List.set_cons_succ] at hK ⊢
        obtain ⟨zp, zq, ⟨x2, X2, z2⟩, ⟨x3, X3, z3⟩, zb⟩ := hw
        refine wp_load_row 25 (.tmp 10) rfl q rfl 25 #[.int .i64 a, .int .i64 (m1 + 1), .int .i64 c, .int .i64 d, .int .i64 e, .int .i64 f] (0, 0) _ zq.out rfl rfl rfl ?_
        simp only [Act.put, List.setIfInBounds_toArray, List.set_cons_zero, List.set_cons_succ]
        exact hK.out _ _ ⟨zp, zq, ⟨x2, X2, z2⟩, ⟨x3, X3, z3⟩, zb⟩ ⟨fun _ => rfl, fun _ => rfl⟩ (by rfl)
      refine InvS.Steps.go (by decide) (by rfl) (fun σ wx hw hd K hK => ?_) ?_
      · obtain e81 : (σ 81) = .agg #[.int .i64 a, .int .i64 b, .int .i64 c, .int .i64 d, .int .i64 m1, .int .i64 f] := hd 0 (some 81) (by kernel_rfl) (by rfl)
        simp only [List.getElem_toArray, List.getElem_cons_zero, List.getElem_cons_succ, Act.put, List.setIfInBounds_toArray, List.set_cons_zero, List.set_cons_succ, e81] at hK ⊢
        obtain ⟨zp, zq, ⟨x2, X2, z2⟩, ⟨x3, X3, z3⟩, zb⟩ := hw
        refine wp_store_row 25 (.tmp 2) (.tmp 81) rfl (w.heap.size + 1) #[.int .i64 a, .int .i64 b, .int .i64 c, .int .i64 d, .int .i64 m1, .int .i64 f] rfl rfl 25 x2 z2 rfl X2 (by simp [Value.oneCell']) ?_
        simp only [Act.put, List.setIfInBounds_toArray, List.set_cons_zero, List.set_cons_succ]
        exact hK.out undef _ ⟨Lib.hid ((setRow_other _ _ _ _ n2p).trans zp.out), Lib.hid ((setRow_other _ _ _ _ n2q).trans zq.out), ⟨_, rfl, setRow_heap _ _ _ _ _ _ z2⟩, ⟨x3, X3, (setRow_other _ _ _ _ n32).trans z3⟩, Lib.hid (below_setRow zb.out h2b _)⟩ ⟨fun h => absurd rfl h, fun _ => setRow_other _ _ _ _ n32⟩ (setRow_heap _ _ _ _ _ _ z2)
      refine InvS.Steps.go (by decide) (by rfl) (fun σ wx hw hd K hK => ?_) ?_
      · obtain e82 : (σ 82) = .agg #[.int .i64 a, .int .i64 (m1 + 1), .int .i64 c, .int .i64 d, .int .i64 e, .int .i64 f] := hd 1 (some 82) (by kernel_rfl) (by rfl)
        simp only [List.getElem_toArray, List.getElem_cons_zero, List.getElem_cons_succ, Act.put, List.setIfInBounds_toArray, List.set_cons_zero, List.set_cons_succ, e82] at hK ⊢
        obtain ⟨zp, zq, ⟨x2, X2, z2⟩, ⟨x3, X3, z3⟩, zb⟩ := hw
        refine wp_store_row 25 (.tmp 3) (.tmp 82) rfl (w.heap.size + 1 + 1) #[.int .i64 a, .int .i64 (m1 + 1), .int .i64 c, .int .i64 d, .int .i64 e, .int .i64 f] rfl rfl 25 x3 z3 rfl X3 (by simp [Value.oneCell']) ?_
        simp only [Act.put, List.setIfInBounds_toArray, List.set_cons_zero, List.set_cons_succ]
        exact hK.out undef _ ⟨Lib.hid ((setRow_other _ _ _ _ n3p).trans zp.out), Lib.hid ((setRow_other _ _ _ _ n3q).trans zq.out), ⟨x2, X2, (setRow_other _ _ _ _ n23).trans z2⟩, ⟨_, rfl, setRow_heap _ _ _ _ _ _ z3⟩, Lib.hid (below_setRow zb.out h3b _)⟩ ⟨fun _ => setRow_other _ _ _ _ n23, fun h => absurd rfl h⟩ (setRow_heap _ _ _ _ _ _ z3)
      refine InvS.Steps.go (by decide) (by rfl) (fun σ wx hw hd K hK => ?_) ?_
      · simp only [List.getElem_toArray, List.getElem_cons_zero, List.getElem_cons_succ, Act.put, List.setIfInBounds_toArray, List.set_cons_zero, List.set_cons_succ] at hK ⊢
        go_simp
        exact hK.out _ _ hw ⟨fun _ => rfl, fun _ => rfl⟩ (by rfl)
      exact InvS.Steps.nil
    · intro σ wx hw hd
      obtain E2 : wx.heap[(w.heap.size + 1)]? = some (.cells #[.int .i64 a, .int .i64 b, .int .i64 c, .int .i64 d, .int .i64 m1, .int .i64 f] 25 (0, 0)) := hd 2 (by decide) (by rfl)
      obtain E3 : wx.heap[(w.heap.size + 1 + 1)]? = some (.cells #[.int .i64 a, .int .i64 (m1 + 1), .int .i64 c, .int .i64 d, .int .i64 e, .int .i64 f] 25 (0, 0)) := hd 3 (by decide) (by rfl)
      obtain e4 : (σ 4) = .bool true := hd 4 (by decide) (by rfl)
      obtain ⟨_, _, _, _, zb⟩ := hw
      simp only [e4]
      clear hd
      refine Inv.done (by kernel_rfl) (NoPanic.normal ?_)
      go_wp2
      exact bodyPost_ret (results_two_rows_tmp rfl _ _ (w.heap.size + 1) (w.heap.size + 1 + 1) _ _ _ _ _ _ _ _ rfl E2 rfl (by rfl) rfl rfl E3 rfl (by rfl) rfl) rfl ⟨rfl, zb.out⟩
set_option maxHeartbeats 8000000 in
set_option maxRecDepth 100000 in
theorem rsplit_D (a b c d e f : Int) (h : bvB a b c d e f = true) (h2 : 2 ≤ pts a b c d e f) (k1 : d - a < e - b) (k2 : e - b < f - c) (w : World) :
    Calls Try.prog 12 #[.agg #[.int .i64 a, .int .i64 b, .int .i64 c, .int .i64 d, .int .i64 e, .int .i64 f]] w fun r w' => r = .returned (.tuple #[.agg #[.int .i64 a, .int .i64 b, .int .i64 c, .int .i64 d, .int .i64 e, .int .i64 (c + (f - c) / 2)], .agg #[.int .i64 a, .int .i64 b, .int .i64 ((c + (f - c) / 2) + 1), .int .i64 d, .int .i64 e, .int .i64 f], .bool true]) ∧ Below w.heap.size w w' := by
  have P := Lib.hid fun w => rpoints_2 a b c d e f h w
  have C := Lib.hid fun w => rcenter_2 a b c d e f h w
  obtain ⟨⟨ax0, ax1, ay0, ay1, az0, az1⟩, ⟨dx0, dx1, dy0, dy1, dz0, dz1⟩, hx, hy, hz⟩ := bvB_yes h
  clear h
  generalize pts a b c d e f = np at *
  obtain ⟨m0, hm0⟩ : ∃ m, m = a + (d - a) / 2 := ⟨_, rfl⟩
  obtain ⟨m1, hm1⟩ : ∃ m, m = b + (e - b) / 2 := ⟨_, rfl⟩
  obtain ⟨m2, hm2⟩ : ∃ m, m = c + (f - c) / 2 := ⟨_, rfl⟩
  rw [← hm0, ← hm1, ← hm2] at C
  rw [← hm2]
  have b0 : a ≤ m0 ∧ m0 ≤ d := by omega
  have b1 : b ≤ m1 ∧ m1 ≤ e := by omega
  have b2 : c ≤ m2 ∧ m2 ≤ f := by omega
  clear hm0 hm1 hm2
  have p1 := Lib.hid (blk_alloc (blk_alloc (blk_new w (.cells #[.int .i64 a, .int .i64 b, .int .i64 c, .int .i64 d, .int .i64 e, .int .i64 f] 25)) (.cells #[.int .i64 0, .int .i64 0, .int .i64 0, .int .i64 0, .int .i64 0, .int .i64 0] 25)) (.cells #[.int .i64 0, .int .i64 0, .int .i64 0, .int .i64 0, .int .i64 0, .int .i64 0] 25))
  have p2 := Lib.hid (blk_alloc (blk_new1 w (.cells #[.int .i64 a, .int .i64 b, .int .i64 c, .int .i64 d, .int .i64 e, .int .i64 f] 25) (.cells #[.int .i64 0, .int .i64 0, .int .i64 0, .int .i64 0, .int .i64 0, .int .i64 0] 25)) (.cells #[.int .i64 0, .int .i64 0, .int .i64 0, .int .i64 0, .int .i64 0, .int .i64 0] 25))
  have p3 := Lib.hid (blk_new2 w (.cells #[.int .i64 a, .int .i64 b, .int .i64 c, .int .i64 d, .int .i64 e, .int .i64 f] 25) (.cells #[.int .i64 0, .int .i64 0, .int .i64 0, .int .i64 0, .int .i64 0, .int .i64 0] 25) (.cells #[.int .i64 0, .int .i64 0, .int .i64 0, .int .i64 0, .int .i64 0, .int .i64 0] 25))
  have hA := Lib.hid (Buf.then_ (Buf.then_ (new_block (w := w) (.cells #[.int .i64 a, .int .i64 b, .int .i64 c, .int .i64 d, .int .i64 e, .int .i64 f] 25)) (new_block (.cells #[.int .i64 0, .int .i64 0, .int .i64 0, .int .i64 0, .int .i64 0, .int .i64 0] 25))) (new_block (.cells #[.int .i64 0, .int .i64 0, .int .i64 0, .int .i64 0, .int .i64 0, .int .i64 0] 25)))
  go_enter Try.func12, Try.ntmps12
  go_wp2_with fail
  with_reducible refine (P.out _).mono ?_
  rintro r w1 ⟨rfl, hb⟩
  replace p1 := Lib.hid (blk_b hb p1.out)
  replace p2 := Lib.hid (blk_b hb p2.out)
  replace p3 := Lib.hid (blk_b hb p3.out)
  replace hA := Lib.hid (Buf.then_ hA.out hb)
  clear hb
  obtain ⟨u1, u2, u3, u4, u5, u6⟩ := cells6 p1.out
  go_wp2_with fail
  go_quiet (fail)
  go_wp2_with fail
  with_reducible refine (C.out _).mono ?_
  rintro r w3 ⟨rfl, hb⟩
  replace hb : Below w1.heap.size w1 w3 := Buf.then_ (Buf.below_drewN (Below.refl _ _) _) hb
  replace p1 := Lib.hid (blk_b hb p1.out)
  replace p2 := Lib.hid (blk_b hb p2.out)
  replace p3 := Lib.hid (blk_b hb p3.out)
  replace hA := Lib.hid (Buf.then_ hA.out hb)
  clear hb u1 u2 u3 u4 u5 u6
  go_upto_region 5 with fail
  obtain ⟨w4, hw4⟩ : ∃ wz, wz = w3.alloc (.cells #[.int .i64 m0, .int .i64 m1, .int .i64 m2] 23) := ⟨_, rfl⟩
  obtain ⟨mb, hmb⟩ : ∃ z, z = w3.heap.size := ⟨_, rfl⟩
  have hb : Below w3.heap.size w3 w4 := by rw [hw4]; exact new_block _
  have km := Lib.hid (show w4.heap[mb]? = some (.cells #[.int .i64 m0, .int .i64 m1, .int .i64 m2] 23 (0, 0)) by rw [hw4, hmb]; exact blk_new w3 _)
  have hmb1 : w.heap.size + 2 < mb := by rw [hmb]; exact (Array.getElem?_eq_some_iff.1 p3.out).1
  have hmb2 : mb < w4.heap.size := (Array.getElem?_eq_some_iff.1 km.out).1
  rw [← hw4, ← hmb]
  replace p1 := Lib.hid (blk_b hb p1.out)
  replace p2 := Lib.hid (blk_b hb p2.out)
  replace p3 := Lib.hid (blk_b hb p3.out)
  replace hA := Lib.hid (Buf.then_ hA.out hb)
  clear hb hw4 hmb
  go_cut [9, 10] (fun v9 v10 wx => ∃ (p q : Nat) (wz : World), wz = wx ∧ p ≠ q ∧ w4.heap.size ≤ p ∧ w4.heap.size ≤ q ∧ v9 = .pointer (some ⟨p, 0, none⟩) ∧ v10 = .pointer (some ⟨q, 0, none⟩) ∧ Hid (wz.heap[p]? = some (.cells #[.int .i64 a, .int .i64 b, .int .i64 c, .int .i64 d, .int .i64 e, .int .i64 f] 25 (0, 0))) ∧ Hid (wz.heap[q]? = some (.cells #[.int .i64 a, .int .i64 b, .int .i64 c, .int .i64 d, .int .i64 e, .int .i64 f] 25 (0, 0))) ∧ Hid (Below w4.heap.size w4 wz))
  case first =>
    obtain ⟨u1, u2, u3, u4, u5, u6⟩ := cells6 p1.out
    have ne1 := World.new_ne w4 _ u1
    go_region_held3 (fun w' => w'.cell? ⟨w.heap.size, 0, none⟩ = some (.int .i64 a) ∧ w'.cell? ⟨w.heap.size, 1, none⟩ = some (.int .i64 b) ∧ w'.cell? ⟨w.heap.size, 2, none⟩ = some (.int .i64 c) ∧ w'.cell? ⟨w.heap.size, 3, none⟩ = some (.int .i64 d) ∧ w'.cell? ⟨w.heap.size, 4, none⟩ = some (.int .i64 e) ∧ w'.cell? ⟨w.heap.size, 5, none⟩ = some (.int .i64 f)) (go_keep) (fail)
    all_goals go_wp2_with fail
    all_goals go_meet
    · exact ⟨w4.heap.size, w4.heap.size + 1, _, rfl, by omega, by omega, by omega, rfl, rfl, Lib.hid (blk_alloc (blk_new w4 _) _), Lib.hid (blk_new1 w4 _ _), Lib.hid (Below.drew (Buf.then_ (new_block _) (new_block _)))⟩
    · exact ⟨w4.heap.size + 1, w4.heap.size, _, rfl, by omega, by omega, by omega, rfl, rfl, Lib.hid (blk_new1 w4 _ _), Lib.hid (blk_alloc (blk_new w4 _) _), Lib.hid (Below.drew (Buf.then_ (new_block _) (new_block _)))⟩
  case rest =>
    obtain ⟨p, q, wc, rfl, hpq, hp0, hq0, rfl, rfl, gp, gq, hb⟩ := hcut
    replace p2 := Lib.hid (blk_b hb.out p2.out)
    replace p3 := Lib.hid (blk_b hb.out p3.out)
    replace km := Lib.hid (blk_b hb.out km.out)
    replace hA := Lib.hid (Buf.then_ hA.out hb.out)
    clear hb p1
    obtain ⟨c1, c2, c3, _, _, _⟩ := cells3 km.out
    obtain ⟨g1, g2, g3, g4, g5, g6, g7, g8, g9, g10, g11, g12⟩ := cells6f gp.out
    obtain ⟨i1, i2, i3, i4, i5, i6, i7, i8, i9, i10, i11, i12⟩ := cells6f gq.out
    have hqp : q ≠ p := Ne.symm hpq
    have hmp : p ≠ mb := by omega
    have d1 : (wc.setCell ⟨p, 5, none⟩ (.int .i64 m2)).cell? ⟨mb, 2, none⟩ = some (.int .i64 m2) := by rw [World.cell?_setCell_far _ _ _ _ hmp]; exact c3
    have d2 : (wc.setCell ⟨p, 5, none⟩ (.int .i64 m2)).cell? ⟨q, 2, none⟩ = some (.int .i64 c) := by rw [World.cell?_setCell_far _ _ _ _ hpq]; exact i3
    have d3 : (wc.setCell ⟨p, 5, none⟩ (.int .i64 m2)).frozen? ⟨q, 2, none⟩ = false := by rw [World.frozen?_setCell]; exact i9
    go_wp2_with fail
    go_region
    obtain ⟨wz, hwz⟩ : ∃ wz, wz = ((wc.setCell ⟨p, 5, none⟩ (.int .i64 m2)).setCell ⟨q, 2, none⟩ (.int .i64 (m2 + 1))).drew := ⟨_, rfl⟩
    have zp : wz.heap[p]? = some (.cells #[.int .i64 a, .int .i64 b, .int .i64 c, .int .i64 d, .int .i64 e, .int .i64 m2] 25 (0, 0)) := by rw [hwz, HD, Below.heap_setCell _ _ _ p (by simpa using hpq)]; exact (heap_setCell_same _ p 5 _ _ _ gp.out).trans rfl
    have zq : wz.heap[q]? = some (.cells #[.int .i64 a, .int .i64 b, .int .i64 (m2 + 1), .int .i64 d, .int .i64 e, .int .i64 f] 25 (0, 0)) := by rw [hwz, HD]; exact (heap_setCell_same _ q 2 _ _ _ ((Below.heap_setCell _ _ _ q (by simpa using hqp)).trans gq.out)).trans rfl
    have z2 : wz.heap[w.heap.size + 1]? = some (.cells #[.int .i64 0, .int .i64 0, .int .i64 0, .int .i64 0, .int .i64 0, .int .i64 0] 25 (0, 0)) := by rw [hwz, HD, Below.heap_setCell _ _ _ _ (by simp; omega), Below.heap_setCell _ _ _ _ (by simp; omega)]; exact p2.out
    have z3 : wz.heap[w.heap.size + 1 + 1]? = some (.cells #[.int .i64 0, .int .i64 0, .int .i64 0, .int .i64 0, .int .i64 0, .int .i64 0] 25 (0, 0)) := by rw [hwz, HD, Below.heap_setCell _ _ _ _ (by simp; omega), Below.heap_setCell _ _ _ _ (by simp; omega)]; exact p3.out
    have z4 : Below w.heap.size w wz := by rw [hwz]; exact Below.drew ((hA.out.setCell (by simp; omega) _).setCell (by simp; omega) _)
    rw [← hwz]
    clear hwz c1 c2 c3 g1 g2 g3 g4 g5 g6 g7 g8 g9 g10 g11 g12 i1 i2 i3 i4 i5 i6 i7 i8 i9 i10 i11 i12 d1 d2 d3 gp gq p2 p3 hA km
    have n2p : p ≠ w.heap.size + 1 := by omega
    have n2q : q ≠ w.heap.size + 1 := by omega
    have n3p : p ≠ w.heap.size + 1 + 1 := by omega
    have n3q : q ≠ w.heap.size + 1 + 1 := by omega
    have n23 : w.heap.size + 1 ≠ w.heap.size + 1 + 1 := by omega
    have n32 : w.heap.size + 1 + 1 ≠ w.heap.size + 1 := by omega
    have h2b : w.heap.size ≤ w.heap.size + 1 := by omega
    have h3b : w.heap.size ≤ w.heap.size + 1 + 1 := by omega
    clear hp0 hq0 hpq hqp hmp
    replace zp := Lib.hid zp
    replace zq := Lib.hid zq
    replace z2 := Lib.hid z2
    replace z3 := Lib.hid z3
    replace z4 := Lib.hid z4
    go_wp2_with fail
    refine wp_region_noPanic ?_
    refine wp_region_any (by kernel_rfl) ?_
    refine InvS.wpAny_inv (fun k => false) [81, 82, 4] (fun w' => Hid (w'.heap[p]? = some (.cells #[.int .i64 a, .int .i64 b, .int .i64 c, .int .i64 d, .int .i64 e, .int .i64 m2] 25 (0, 0))) ∧ Hid (w'.heap[q]? = some (.cells #[.int .i64 a, .int .i64 b, .int .i64 (m2 + 1), .int .i64 d, .int .i64 e, .int .i64 f] 25 (0, 0))) ∧ (∃ cq_ : Array Value, cq_.size = (#[.int .i64 a, .int .i64 b, .int .i64 c, .int .i64 d, .int .i64 e, .int .i64 m2] : Array Value).size ∧ w'.heap[(w.heap.size + 1)]? = some (.cells cq_ 25 (0, 0))) ∧ (∃ cq_ : Array Value, cq_.size = (#[.int .i64 a, .int .i64 b, .int .i64 (m2 + 1), .int .i64 d, .int .i64 e, .int .i64 f] : Array Value).size ∧ w'.heap[(w.heap.size + 1 + 1)]? = some (.cells cq_ 25 (0, 0))) ∧ Hid (Below w.heap.size w w')) (fun k w1' w2' => (k ≠ 2 → w2'.heap[(w.heap.size + 1)]? = w1'.heap[(w.heap.size + 1)]?) ∧ (k ≠ 3 → w2'.heap[(w.heap.size + 1 + 1)]? = w1'.heap[(w.heap.size + 1 + 1)]?)) (fun k => ([fun s_ w_ => (s_ 81) = .agg #[.int .i64 a, .int .i64 b, .int .i64 c, .int .i64 d, .int .i64 e, .int .i64 m2], fun s_ w_ => (s_ 82) = .agg #[.int .i64 a, .int .i64 b, .int .i64 (m2 + 1), .int .i64 d, .int .i64 e, .int .i64 f], fun s_ w_ => w_.heap[(w.heap.size + 1)]? = some (.cells #[.int .i64 a, .int .i64 b, .int .i64 c, .int .i64 d, .int .i64 e, .int .i64 m2] 25 (0, 0)), fun s_ w_ => w_.heap[(w.heap.size + 1 + 1)]? = some (.cells #[.int .i64 a, .int .i64 b, .int .i64 (m2 + 1), .int .i64 d, .int .i64 e, .int .i64 f] 25 (0, 0)), fun s_ w_ => (s_ 4) = .bool true] : List ((Nat → Value) → World → Prop)).getD k (fun _ _ => True)) _ (fun σ => by simp only [Inv.putAll, List.foldl_cons, List.foldl_nil, Act.put, List.setIfInBounds_toArray, List.set_cons_zero, List.set_cons_succ]; rfl) (by kernel_rfl) (by kernel_rfl) ?_ ⟨zp, zq, ⟨#[.int .i64 0, .int .i64 0, .int .i64 0, .int .i64 0, .int .i64 0, .int .i64 0], rfl, z2.out⟩, ⟨#[.int .i64 0, .int .i64 0, .int .i64 0, .int .i64 0, .int .i64 0, .int .i64 0], rfl, z3.out⟩, Lib.hid (Below.drew z4.out)⟩ ?_ ?_ 0 #[true, true, true, true, true] (by kernel_rfl) (by kernel_rfl) ?_
    · intro j k oj σ v w1 w2 hoj hlj hjk hdp hv hr
      rcases k with _ | k
      · have hS : oj.dst ≠ some 81 := by
          clear hv hr
          rcases j with _ | _ | _ | _ | _ | j
          all_goals first | exact absurd rfl hjk | exact absurd hdp (by decide +kernel) | (simp only [List.getElem?_toArray, List.getElem?_cons_zero, List.getElem?_cons_succ, Option.some.injEq] at hoj; subst hoj; decide) | exact absurd (Array.getElem?_eq_some_iff.1 hoj).1 (by simp)
        simp only [List.getD_cons_zero, List.getD_cons_succ, InvS.updo_ne hS] at hv ⊢
        exact hv
      rcases k with _ | k
      · have hS : oj.dst ≠ some 82 := by
          clear hv hr
          rcases j with _ | _ | _ | _ | _ | j
          all_goals first | exact absurd rfl hjk | exact absurd hdp (by decide +kernel) | (simp only [List.getElem?_toArray, List.getElem?_cons_zero, List.getElem?_cons_succ, Option.some.injEq] at hoj; subst hoj; decide) | exact absurd (Array.getElem?_eq_some_iff.1 hoj).1 (by simp)
        simp only [List.getD_cons_zero, List.getD_cons_succ, InvS.updo_ne hS] at hv ⊢
        exact hv
      rcases k with _ | k
      · skip
        exact ((hr.1 hjk).trans hv)
      rcases k with _ | k
      · skip
        exact ((hr.2 hjk).trans hv)
      rcases k with _ | k
      · have hS : oj.dst ≠ some 4 := by
          clear hv hr
          rcases j with _ | _ | _ | _ | _ | j
          all_goals first | exact absurd rfl hjk | exact absurd hdp (by decide +kernel) | (simp only [List.getElem?_toArray, List.getElem?_cons_zero, List.getElem?_cons_succ, Option.some.injEq] at hoj; subst hoj; decide) | exact absurd (Array.getElem?_eq_some_iff.1 hoj).1 (by simp)
        simp only [List.getD_cons_zero, List.getD_cons_succ, InvS.updo_ne hS] at hv ⊢
        exact hv
      · exact trivial
    · intro k hl
      rcases k with _ | k
      · exact absurd hl (by decide +kernel)
      rcases k with _ | k
      · exact absurd hl (by decide +kernel)
      rcases k with _ | k
      · exact absurd hl (by decide +kernel)
      rcases k with _ | k
      · exact absurd hl (by decide +kernel)
      rcases k with _ | k
      · exact absurd hl (by decide +kernel)
      · exact trivial
    · show InvS.Steps _ _ _ _ _ _ _ _ [0, 1, 2, 3, 4]
      refine InvS.Steps.go (by decide) (by rfl) (fun σ wx hw hd K hK => ?_) ?_
      · simp only [List.getElem_toArray, List.getElem_cons_zero, List.getElem_cons_succ, Act.put, List.setIfInBounds_toArray, List.set_cons_zero, List.set_cons_succ] at hK ⊢
        obtain ⟨zp, zq, ⟨x2, X2, z2⟩, ⟨x3, X3, z3⟩, zb⟩ := hw
        refine wp_load_row 25 (.tmp 9) rfl p rfl 25 #[.int .i64 a, .int .i64 b, .int .i64 c, .int .i64 d, .int .i64 e, .int .i64 m2] (0, 0) _ zp.out rfl rfl rfl ?_
        simp only [Act.put, List.setIfInBounds_toArray, List.set_cons_zero, List.set_cons_succ]
        exact hK.out _ _ ⟨zp, zq, ⟨x2, X2, z2⟩, ⟨x3, X3, z3⟩, zb⟩ ⟨fun _ => rfl, fun _ => rfl⟩ (by rfl)
      refine InvS.Steps.go (by decide) (by rfl) (fun σ wx hw hd K hK => ?_) ?_
      · simp only [List.getElem_toArray, List.getElem_cons_zero, List.getElem_cons_succ, Act.put, List.setIfInBounds_toArray, List.set_cons_zero, List.set_cons_succ] at hK ⊢
        obtain ⟨zp, zq, ⟨x2, X2, z2⟩, ⟨x3, X3, z3⟩, zb⟩ := hw
        refine wp_load_row 25 (.tmp 10) rfl q rfl 25 #[.int .i64 a, .int .i64 b, .int .i64 (m2 + 1), .int .i64 d, .int .i64 e, .int .i64 f] (0, 0) _ zq.out rfl rfl rfl ?_
        simp only [Act.put, List.setIfInBounds_toArray, List.set_cons_zero, List.set_cons_succ]
        exact hK.out _ _ ⟨zp, zq, ⟨x2, X2, z2⟩, ⟨x3, X3, z3⟩, zb⟩ ⟨fun _ => rfl, fun _ => rfl⟩ (by rfl)
      refine InvS.Steps.go (by decide) (by rfl) (fun σ wx hw hd K hK => ?_) ?_
      · obtain e81 : (σ 81) = .agg #[.int .i64 a, .int .i64 b, .int .i64 c, .int .i64 d, .int .i64 e, .int .i64 m2] := hd 0 (some 81) (by kernel_rfl) (by rfl)
        simp only [List.getElem_toArray, List.getElem_cons_zero, List.getElem_cons_succ, Act.put, List.setIfInBounds_toArray, List.set_cons_zero, List.set_cons_succ, e81] at hK ⊢
        obtain ⟨zp, zq, ⟨x2, X2, z2⟩, ⟨x3, X3, z3⟩, zb⟩ := hw
        refine wp_store_row 25 (.tmp 2) (.tmp 81) rfl (w.heap.size + 1) #[.int .i64 a, .int .i64 b, .int .i64 c, .int .i64 d, .int .i64 e, .int .i64 m2] rfl rfl 25 x2 z2 rfl X2 (by simp [Value.oneCell']) ?_
        simp only [Act.put, List.setIfInBounds_toArray, List.set_cons_zero, List.set_cons_succ]
        exact hK.out undef _ ⟨Lib.hid ((setRow_other _ _ _ _ n2p).trans zp.out), Lib.hid ((setRow_other _ _ _ _ n2q).trans zq.out), ⟨_, rfl, setRow_heap _ _ _ _ _ _ z2⟩, ⟨x3, X3, (setRow_other _ _ _ _ n32).trans z3⟩, Lib.hid (below_setRow zb.out h2b _)⟩ ⟨fun h => absurd rfl h, fun _ => setRow_other _ _ _ _ n32⟩ (setRow_heap _ _ _ _ _ _ z2)
      refine InvS.Steps.go (by decide) (by rfl) (fun σ wx hw hd K hK => ?_) ?_
      · obtain e82 : (σ 82) = .agg #[.int .i64 a, .int .i64 b, .int .i64 (m2 + 1), .int .i64 d, .int .i64 e, .int .i64 f] := hd 1 (some 82) (by kernel_rfl) (by rfl)
        simp only [List.getElem_toArray, List.getElem_cons_zero, List.getElem_cons_succ, Act.put, List.setIfInBounds_toArray, List.set_cons_zero, List.set_cons_succ, e82] at hK ⊢
        obtain ⟨zp, zq, ⟨x2, X2, z2⟩, ⟨x3, X3, z3⟩, zb⟩ := hw
        refine wp_store_row 25 (.tmp 3) (.tmp 82) rfl (w.heap.size + 1 + 1) #[.int .i64 a, .int .i64 b, .int .i64 (m2 + 1), .int .i64 d, .int .i64 e, .int .i64 f] rfl rfl 25 x3 z3 rfl X3 (by simp [Value.oneCell']) ?_
        simp only [Act.put, List.setIfInBounds_toArray, List.set_cons_zero, List.set_cons_succ]
        exact hK.out undef _ ⟨Lib.hid ((setRow_other _ _ _ _ n3p).trans zp.out), Lib.hid ((setRow_other _ _ _ _ n3q).trans zq.out), ⟨x2, X2, (setRow_other _ _ _ _ n23).trans z2⟩, ⟨_, rfl, setRow_heap _ _ _ _ _ _ z3⟩, Lib.hid (below_setRow zb.out h3b _)⟩ ⟨fun _ => setRow_other _ _ _ _ n23, fun h => absurd rfl h⟩ (setRow_heap _ _ _ _ _ _ z3)
      refine InvS.Steps.go (by decide) (by rfl) (fun σ wx hw hd K hK => ?_) ?_
      · simp only [List.getElem_toArray, List.getElem_cons_zero, List.getElem_cons_succ, Act.put, List.setIfInBounds_toArray, List.set_cons_zero, List.set_cons_succ] at hK ⊢
        go_simp
        exact hK.out _ _ hw ⟨fun _ => rfl, fun _ => rfl⟩ (by rfl)
      exact InvS.Steps.nil
    · intro σ wx hw hd
      obtain E2 : wx.heap[(w.heap.size + 1)]? = some (.cells #[.int .i64 a, .int .i64 b, .int .i64 c, .int .i64 d, .int .i64 e, .int .i64 m2] 25 (0, 0)) := hd 2 (by decide) (by rfl)
      obtain E3 : wx.heap[(w.heap.size + 1 + 1)]? = some (.cells #[.int .i64 a, .int .i64 b, .int .i64 (m2 + 1), .int .i64 d, .int .i64 e, .int .i64 f] 25 (0, 0)) := hd 3 (by decide) (by rfl)
      obtain e4 : (σ 4) = .bool true := hd 4 (by decide) (by rfl)
      obtain ⟨_, _, _, _, zb⟩ := hw
      simp only [e4]
      clear hd
      refine Inv.done (by kernel_rfl) (NoPanic.normal ?_)
      go_wp2
      exact bodyPost_ret (results_two_rows_tmp rfl _ _ (w.heap.size + 1) (w.heap.size + 1 + 1) _ _ _ _ _ _ _ _ rfl E2 rfl (by rfl) rfl rfl E3 rfl (by rfl) rfl) rfl ⟨rfl, zb.out⟩
end Geo
end Go.Proofs.Ytklgnbimfobgkaa
