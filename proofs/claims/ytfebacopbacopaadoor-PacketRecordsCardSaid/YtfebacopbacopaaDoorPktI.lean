/- packet.Record. -/
import Derived.Test.YtfebacopbacopaaDoorPktAH
import Derived.Test.YtfebacopbacopaaDoorRecH
import Derived.Test.YtfebacopbacopaaDoorInv
import Derived.Laws.Tables
import Derived.Deep.MidRow
import Derived.Deep.DeepCutAuto
set_option linter.unusedVariables false
set_option linter.unusedSimpArgs false
namespace Go.Proofs.YtfebacopbacopaaDoor
open Go.RowKit Dice
namespace Pkt
set_option maxHeartbeats 8000000 in
set_option maxRecDepth 100000 in
theorem record_any {w : World} {s0 s1 s2 s3 : List UInt8} {ru se st nu de cl er : Nat} {L : List Int} {a : Option Addr} {c : Nat} (G : Good s0 s1 s2 s3 ru se st nu de cl er L) (hR : St.Ro w a L.length c L) (bd : Int) (hbd : bd = if cl = 2 then 1099511627776 else (er : Int)) :
    Calls Tryd.prog 17 #[.agg #[.string ⟨⟨s0⟩⟩, .string ⟨⟨s1⟩⟩, .string ⟨⟨s2⟩⟩, .string ⟨⟨s3⟩⟩, .int .i64 (ru : Int), .int .i64 (se : Int), .int .i64 (st : Int), .int .i64 (nu : Int), .int .i64 (de : Int), .int .i64 (cl : Int), .int .i64 (er : Int), .slice a L.length c]] w fun e w' => (∃ g d, e = .returned (.tuple #[.agg #[.string ⟨⟨s0⟩⟩, .string ⟨⟨s1⟩⟩, .string ⟨⟨s2⟩⟩, .string ⟨⟨s3⟩⟩, .int .i64 (st : Int), .int .i64 0, .int .i64 (nu : Int), .int .i64 (de : Int), .int .i64 bd, .int .i64 (ru : Int), .int .i64 (se : Int), .slice (some ⟨g, 0, none⟩) L.length d], .int .i64 0]) ∧ Rec.SR w' g L ∧ L.length ≤ d) ∧ Below w.heap.size w w' := by
  have l1 := G.l1
  have l9 := G.l9
  obtain ⟨g, o, rfl, hg1, hg2⟩ := hR.at_ (by omega)
  obtain ⟨w1, hw1⟩ : ∃ w1, w1 = (w.alloc (.cells #[.string ⟨⟨s0⟩⟩, .string ⟨⟨s1⟩⟩, .string ⟨⟨s2⟩⟩, .string ⟨⟨s3⟩⟩, .int .i64 (ru : Int), .int .i64 (se : Int), .int .i64 (st : Int), .int .i64 (nu : Int), .int .i64 (de : Int), .int .i64 (cl : Int), .int .i64 (er : Int), .slice (some ⟨g, o, none⟩) L.length c] 34)).alloc (.cells #[.string ⟨#[]⟩, .string ⟨#[]⟩, .string ⟨#[]⟩, .string ⟨#[]⟩, .int .i64 0, .int .i64 0, .int .i64 0, .int .i64 0, .int .i64 0, .int .i64 0, .int .i64 0, .slice none 0 0] 50) := ⟨_, rfl⟩
  obtain ⟨p1, hp1⟩ : ∃ p, p = w.heap.size := ⟨_, rfl⟩
  have s1' : (w.alloc (.cells #[.string ⟨⟨s0⟩⟩, .string ⟨⟨s1⟩⟩, .string ⟨⟨s2⟩⟩, .string ⟨⟨s3⟩⟩, .int .i64 (ru : Int), .int .i64 (se : Int), .int .i64 (st : Int), .int .i64 (nu : Int), .int .i64 (de : Int), .int .i64 (cl : Int), .int .i64 (er : Int), .slice (some ⟨g, o, none⟩) L.length c] 34)).heap.size = w.heap.size + 1 := by simp
  have hb1 : Below w.heap.size w w1 := by rw [hw1]; exact Buf.then_ (new_block _) (new_block _)
  have KP := Lib.hid (show w1.heap[p1]? = some (.cells #[.string ⟨⟨s0⟩⟩, .string ⟨⟨s1⟩⟩, .string ⟨⟨s2⟩⟩, .string ⟨⟨s3⟩⟩, .int .i64 (ru : Int), .int .i64 (se : Int), .int .i64 (st : Int), .int .i64 (nu : Int), .int .i64 (de : Int), .int .i64 (cl : Int), .int .i64 (er : Int), .slice (some ⟨g, o, none⟩) L.length c] 34 (0, 0)) by rw [hw1, hp1]; exact (heap_alloc_old _ _ (by rw [s1']; omega)).trans (heap_alloc_new w _))
  have KR := Lib.hid (show w1.heap[p1 + 1]? = some (.cells #[.string ⟨#[]⟩, .string ⟨#[]⟩, .string ⟨#[]⟩, .string ⟨#[]⟩, .int .i64 0, .int .i64 0, .int .i64 0, .int .i64 0, .int .i64 0, .int .i64 0, .int .i64 0, .slice none 0 0] 50 (0, 0)) by rw [hw1, hp1, ← s1']; exact heap_alloc_new _ _)
  have VY := Lib.hid (valid_yes G (hR.below hb1))
  have B1 := Lib.hid hb1
  have hpw : Hid (w.heap.size ≤ p1) := Lib.hid (by omega)
  have RO1 := Lib.hid (hR.below hb1)
  clear G s1' hR hg2
  go_enter Tryd.func17, Tryd.ntmps17
  go_upto_region 1 with fail
  rw [← hw1, ← hp1]
  clear hw1 hb1 hp1
  go_wp2_with ((with_reducible refine Mid.ldr 34 (.tmp 1) p1 34 #[.string ⟨⟨s0⟩⟩, .string ⟨⟨s1⟩⟩, .string ⟨⟨s2⟩⟩, .string ⟨⟨s3⟩⟩, .int .i64 (ru : Int), .int .i64 (se : Int), .int .i64 (st : Int), .int .i64 (nu : Int), .int .i64 (de : Int), .int .i64 (cl : Int), .int .i64 (er : Int), .slice (some ⟨g, o, none⟩) L.length c] KP.out ?_ ?_ ?_ ?_ ?_ ?_); (· rfl); (· rfl); (· first | rfl | simp [Act.eval]); (· exact ⟨_, rfl, rfl⟩); (· kernel_rfl))
  with_reducible refine VY.out.mono ?_
  rintro e w3 ⟨rfl, hb⟩
  replace KP := Lib.hid (hbk hb KP.out)
  replace KR := Lib.hid (hbk hb KR.out)
  have RO3 := Lib.hid (RO1.out.below hb)
  replace B1 := Lib.hid (Buf.then_ B1.out hb)
  have CLO : Hid (∀ w', Below w3.heap.size w3 w' → Calls Tryd.prog 35 #[.slice (some ⟨g, o, none⟩) L.length c] w' fun e w'' => (∃ g c', e = .returned (.slice (some ⟨g, 0, none⟩) L.length c') ∧ Rec.SR w'' g L ∧ L.length ≤ c' ∧ c' ≤ maxLen ∧ w'.heap.size ≤ g) ∧ Below w'.heap.size w' w'') := Lib.hid fun w' h => by
    obtain ⟨g', o', e, h1, h2⟩ := (RO3.out.below h).at_ (by omega)
    cases e
    exact Rec.clone_off h1 (fun j hj => h2 j _ (by rw [List.getD_eq_getElem?_getD, List.getElem?_eq_getElem hj]; rfl)) rfl l1 (by omega)
  clear hb RO1
  obtain ⟨q0, q1, q2, q3, q4, q5, q6, q7, q8, q9, q10, q11⟩ := c12 KP.out
  go_upto_region 3 with fail
  go_upto_if 15 with (fail)
  go_cut [4] (fun v wx => v = .int .i64 bd ∧ w3 = wx)
  case first =>
    by_cases hc : cl = 2
    · subst hc
      rw [if_pos rfl] at hbd
      go_wp2_with fail
      go_meet
      exact ⟨by rw [hbd], rfl⟩
    · rw [if_neg hc] at hbd
      have hc' : ((cl : Int) == 2) = false := by rw [beq_eq_false_iff_ne]; omega
      go_wp2_with fail
      go_meet
      exact ⟨by rw [hbd], rfl⟩
  case rest =>
    obtain ⟨rfl, rfl⟩ := hcut
    clear hbd
    go_upto_region 6 with fail
    refine wp_region_noPanic ?_
    refine wp_region_any (by kernel_rfl) ?_
    refine Inv.wpAny_inv (fun k => k == 15 || k == 16) [16, 17, 18, 19, 20, 21, 22, 23, 24, 25, 26, 27, 28, 29, 30] (fun w_ => Below w3.heap.size w3 w_) (fun _ w_ w2_ => Below w_.heap.size w_ w2_) (fun k => ([fun v_ w_ => v_ = .pointer (some ⟨p1, 0, none⟩), fun v_ w_ => v_ = .agg #[.string ⟨⟨s0⟩⟩, .string ⟨⟨s1⟩⟩, .string ⟨⟨s2⟩⟩, .string ⟨⟨s3⟩⟩], fun v_ w_ => v_ = .pointer (some ⟨p1, 6, none⟩), fun v_ w_ => v_ = .int .i64 (st : Int), fun v_ w_ => v_ = .pointer (some ⟨p1, 7, none⟩), fun v_ w_ => v_ = .agg #[.int .i64 (nu : Int), .int .i64 (de : Int)], fun v_ w_ => v_ = .int .i64 bd, fun v_ w_ => v_ = .pointer (some ⟨p1, 4, none⟩), fun v_ w_ => v_ = .int .i64 (ru : Int), fun v_ w_ => v_ = .pointer (some ⟨p1, 5, none⟩), fun v_ w_ => v_ = .int .i64 (se : Int), fun v_ w_ => v_ = .pointer (some ⟨p1, 11, none⟩), fun v_ w_ => v_ = .slice (some ⟨g, o, none⟩) L.length c, fun v_ w_ => ∃ g_ c_, v_ = .slice (some ⟨g_, 0, none⟩) L.length c_ ∧ Rec.SR w_ g_ L ∧ L.length ≤ c_ ∧ w3.heap.size ≤ g_, fun v_ w_ => ∃ g_ c_, v_ = .agg #[.string ⟨⟨s0⟩⟩, .string ⟨⟨s1⟩⟩, .string ⟨⟨s2⟩⟩, .string ⟨⟨s3⟩⟩, .int .i64 (st : Int), .int .i64 0, .int .i64 (nu : Int), .int .i64 (de : Int), .int .i64 bd, .int .i64 (ru : Int), .int .i64 (se : Int), .slice (some ⟨g_, 0, none⟩) L.length c_] ∧ Rec.SR w_ g_ L ∧ L.length ≤ c_ ∧ w3.heap.size ≤ g_, fun v_ w_ => True, fun v_ w_ => True] : List (Value → World → Prop)).getD k (fun _ _ => True)) _ (fun σ => by simp only [Inv.putAll, List.foldl_cons, List.foldl_nil, Act.put, List.setIfInBounds_toArray, List.set_cons_zero, List.set_cons_succ]; rfl) (by kernel_rfl) (by kernel_rfl) ?_ (Below.refl _ _).drew ?_ ?_ 2 #[true, true, true, true, true, true, true, true, true, true, true, true, true, true, true, false, false] (by kernel_rfl) (by kernel_rfl) ?_
    · intro j k v w1 w2 hjk hv hr
      rcases k with _ | k
      · exact hv
      rcases k with _ | k
      · exact hv
      rcases k with _ | k
      · exact hv
      rcases k with _ | k
      · exact hv
      rcases k with _ | k
      · exact hv
      rcases k with _ | k
      · exact hv
      rcases k with _ | k
      · exact hv
      rcases k with _ | k
      · exact hv
      rcases k with _ | k
      · exact hv
      rcases k with _ | k
      · exact hv
      rcases k with _ | k
      · exact hv
      rcases k with _ | k
      · exact hv
      rcases k with _ | k
      · exact hv
      rcases k with _ | k
      · exact (by obtain ⟨g_, c_, h1, h2, h3⟩ := hv; exact ⟨g_, c_, h1, h2.below hr, h3⟩)
      rcases k with _ | k
      · exact (by obtain ⟨g_, c_, h1, h2, h3⟩ := hv; exact ⟨g_, c_, h1, h2.below hr, h3⟩)
      rcases k with _ | k
      · exact hv
      rcases k with _ | k
      · exact hv
      · exact hv
    · intro k t hl hd
      rcases k with _ | k
      · exact absurd hl (by decide +kernel)
      rcases k with _ | k
      · exact absurd hl (by decide +kernel)
      rcases k with _ | k
      · exact absurd hl (by decide +kernel)
      rcases k with _ | k
      · exact absurd hl (by decide +kernel)
      rcases k with _ | k
      · exact absurd hl (by decide +kernel)
      rcases k with _ | k
      · exact absurd hl (by decide +kernel)
      rcases k with _ | k
      · exact absurd hl (by decide +kernel)
      rcases k with _ | k
      · exact absurd hl (by decide +kernel)
      rcases k with _ | k
      · exact absurd hl (by decide +kernel)
      rcases k with _ | k
      · exact absurd hl (by decide +kernel)
      rcases k with _ | k
      · exact absurd hl (by decide +kernel)
      rcases k with _ | k
      · exact absurd hl (by decide +kernel)
      rcases k with _ | k
      · exact absurd hl (by decide +kernel)
      rcases k with _ | k
      · exact absurd hl (by decide +kernel)
      rcases k with _ | k
      · exact absurd hl (by decide +kernel)
      rcases k with _ | k
      · exact absurd hl (by decide +kernel)
      rcases k with _ | k
      · exact absurd hl (by decide +kernel)
      · simp at hd
    · show Inv.Steps _ _ _ _ _ _ _ _ [0, 1, 2, 3, 4, 5, 6, 7, 8, 9, 10, 11, 12, 13, 14]
      refine Inv.Steps.go (by decide) (by rfl) (fun σ wx hw hd K hK => ?_) ?_
      · simp only [List.getElem_toArray, List.getElem_cons_zero, List.getElem_cons_succ, Act.put, List.setIfInBounds_toArray, List.set_cons_zero, List.set_cons_succ] at hK ⊢
        go_simp
        exact hK.out _ _ hw (Below.refl _ _) (rfl)
      refine Inv.Steps.go (by decide) (by rfl) (fun σ wx hw hd K hK => ?_) ?_
      · obtain e16 : (σ 16) = .pointer (some ⟨p1, 0, none⟩) := hd 0 (some 16) (by kernel_rfl) (by rfl)
        simp only [List.getElem_toArray, List.getElem_cons_zero, List.getElem_cons_succ, Act.put, List.setIfInBounds_toArray, List.set_cons_zero, List.set_cons_succ, e16] at hK ⊢
        obtain ⟨q0, q1, q2, q3, q4, q5, q6, q7, q8, q9, q10, q11⟩ := c12 (hbk hw KP.out)
        go_simp
        exact hK.out _ _ hw (Below.refl _ _) (rfl)
      refine Inv.Steps.go (by decide) (by rfl) (fun σ wx hw hd K hK => ?_) ?_
      · simp only [List.getElem_toArray, List.getElem_cons_zero, List.getElem_cons_succ, Act.put, List.setIfInBounds_toArray, List.set_cons_zero, List.set_cons_succ] at hK ⊢
        go_simp
        exact hK.out _ _ hw (Below.refl _ _) (rfl)
      refine Inv.Steps.go (by decide) (by rfl) (fun σ wx hw hd K hK => ?_) ?_
      · obtain e18 : (σ 18) = .pointer (some ⟨p1, 6, none⟩) := hd 2 (some 18) (by kernel_rfl) (by rfl)
        simp only [List.getElem_toArray, List.getElem_cons_zero, List.getElem_cons_succ, Act.put, List.setIfInBounds_toArray, List.set_cons_zero, List.set_cons_succ, e18] at hK ⊢
        obtain ⟨q0, q1, q2, q3, q4, q5, q6, q7, q8, q9, q10, q11⟩ := c12 (hbk hw KP.out)
        go_simp
        exact hK.out _ _ hw (Below.refl _ _) (rfl)
      refine Inv.Steps.go (by decide) (by rfl) (fun σ wx hw hd K hK => ?_) ?_
      · simp only [List.getElem_toArray, List.getElem_cons_zero, List.getElem_cons_succ, Act.put, List.setIfInBounds_toArray, List.set_cons_zero, List.set_cons_succ] at hK ⊢
        go_simp
        exact hK.out _ _ hw (Below.refl _ _) (rfl)
      refine Inv.Steps.go (by decide) (by rfl) (fun σ wx hw hd K hK => ?_) ?_
      · obtain e20 : (σ 20) = .pointer (some ⟨p1, 7, none⟩) := hd 4 (some 20) (by kernel_rfl) (by rfl)
        simp only [List.getElem_toArray, List.getElem_cons_zero, List.getElem_cons_succ, Act.put, List.setIfInBounds_toArray, List.set_cons_zero, List.set_cons_succ, e20] at hK ⊢
        obtain ⟨q0, q1, q2, q3, q4, q5, q6, q7, q8, q9, q10, q11⟩ := c12 (hbk hw KP.out)
        go_simp
        exact hK.out _ _ hw (Below.refl _ _) (rfl)
      refine Inv.Steps.go (by decide) (by rfl) (fun σ wx hw hd K hK => ?_) ?_
      · simp only [List.getElem_toArray, List.getElem_cons_zero, List.getElem_cons_succ, Act.put, List.setIfInBounds_toArray, List.set_cons_zero, List.set_cons_succ] at hK ⊢
        go_simp
        exact hK.out _ _ hw (Below.refl _ _) (rfl)
      refine Inv.Steps.go (by decide) (by rfl) (fun σ wx hw hd K hK => ?_) ?_
      · simp only [List.getElem_toArray, List.getElem_cons_zero, List.getElem_cons_succ, Act.put, List.setIfInBounds_toArray, List.set_cons_zero, List.set_cons_succ] at hK ⊢
        go_simp
        exact hK.out _ _ hw (Below.refl _ _) (rfl)
      refine Inv.Steps.go (by decide) (by rfl) (fun σ wx hw hd K hK => ?_) ?_
      · obtain e23 : (σ 23) = .pointer (some ⟨p1, 4, none⟩) := hd 7 (some 23) (by kernel_rfl) (by rfl)
        simp only [List.getElem_toArray, List.getElem_cons_zero, List.getElem_cons_succ, Act.put, List.setIfInBounds_toArray, List.set_cons_zero, List.set_cons_succ, e23] at hK ⊢
        obtain ⟨q0, q1, q2, q3, q4, q5, q6, q7, q8, q9, q10, q11⟩ := c12 (hbk hw KP.out)
        go_simp
        exact hK.out _ _ hw (Below.refl _ _) (rfl)
      refine Inv.Steps.go (by decide) (by rfl) (fun σ wx hw hd K hK => ?_) ?_
      · simp only [List.getElem_toArray, List.getElem_cons_zero, List.getElem_cons_succ, Act.put, List.setIfInBounds_toArray, List.set_cons_zero, List.set_cons_succ] at hK ⊢
        go_simp
        exact hK.out _ _ hw (Below.refl _ _) (rfl)
      refine Inv.Steps.go (by decide) (by rfl) (fun σ wx hw hd K hK => ?_) ?_
      · obtain e25 : (σ 25) = .pointer (some ⟨p1, 5, none⟩) := hd 9 (some 25) (by kernel_rfl) (by rfl)
        simp only [List.getElem_toArray, List.getElem_cons_zero, List.getElem_cons_succ, Act.put, List.setIfInBounds_toArray, List.set_cons_zero, List.set_cons_succ, e25] at hK ⊢
        obtain ⟨q0, q1, q2, q3, q4, q5, q6, q7, q8, q9, q10, q11⟩ := c12 (hbk hw KP.out)
        go_simp
        exact hK.out _ _ hw (Below.refl _ _) (rfl)
      refine Inv.Steps.go (by decide) (by rfl) (fun σ wx hw hd K hK => ?_) ?_
      · simp only [List.getElem_toArray, List.getElem_cons_zero, List.getElem_cons_succ, Act.put, List.setIfInBounds_toArray, List.set_cons_zero, List.set_cons_succ] at hK ⊢
        go_simp
        exact hK.out _ _ hw (Below.refl _ _) (rfl)
      refine Inv.Steps.go (by decide) (by rfl) (fun σ wx hw hd K hK => ?_) ?_
      · obtain e27 : (σ 27) = .pointer (some ⟨p1, 11, none⟩) := hd 11 (some 27) (by kernel_rfl) (by rfl)
        simp only [List.getElem_toArray, List.getElem_cons_zero, List.getElem_cons_succ, Act.put, List.setIfInBounds_toArray, List.set_cons_zero, List.set_cons_succ, e27] at hK ⊢
        obtain ⟨q0, q1, q2, q3, q4, q5, q6, q7, q8, q9, q10, q11⟩ := c12 (hbk hw KP.out)
        go_simp
        exact hK.out _ _ hw (Below.refl _ _) (rfl)
      refine Inv.Steps.go (by decide) (by rfl) (fun σ wx hw hd K hK => ?_) ?_
      · obtain e28 : (σ 28) = .slice (some ⟨g, o, none⟩) L.length c := hd 12 (some 28) (by kernel_rfl) (by rfl)
        simp only [List.getElem_toArray, List.getElem_cons_zero, List.getElem_cons_succ, Act.put, List.setIfInBounds_toArray, List.set_cons_zero, List.set_cons_succ, e28] at hK ⊢
        go_simp
        go_at_call 35
        refine (CLO.out wx hw).mono ?_
        rintro e w1 ⟨⟨g9, c9, rfl, hr, hn9, _, hg9⟩, hc⟩
        dsimp only
        exact hK.out _ _ (Buf.then_ hw hc) hc (⟨g9, c9, rfl, hr, hn9, Nat.le_trans hw.size hg9⟩)
      refine Inv.Steps.go (by decide) (by rfl) (fun σ wx hw hd K hK => ?_) ?_
      · obtain e17 : (σ 17) = .agg #[.string ⟨⟨s0⟩⟩, .string ⟨⟨s1⟩⟩, .string ⟨⟨s2⟩⟩, .string ⟨⟨s3⟩⟩] := hd 1 (some 17) (by kernel_rfl) (by rfl)
        obtain e19 : (σ 19) = .int .i64 (st : Int) := hd 3 (some 19) (by kernel_rfl) (by rfl)
        obtain e21 : (σ 21) = .agg #[.int .i64 (nu : Int), .int .i64 (de : Int)] := hd 5 (some 21) (by kernel_rfl) (by rfl)
        obtain e22 : (σ 22) = .int .i64 bd := hd 6 (some 22) (by kernel_rfl) (by rfl)
        obtain e24 : (σ 24) = .int .i64 (ru : Int) := hd 8 (some 24) (by kernel_rfl) (by rfl)
        obtain e26 : (σ 26) = .int .i64 (se : Int) := hd 10 (some 26) (by kernel_rfl) (by rfl)
        obtain ⟨g29, c29, e29, r29, n29, z29⟩ : ∃ g_ c_, (σ 29) = .slice (some ⟨g_, 0, none⟩) L.length c_ ∧ Rec.SR wx g_ L ∧ L.length ≤ c_ ∧ w3.heap.size ≤ g_ := hd 13 (some 29) (by kernel_rfl) (by rfl)
        simp only [List.getElem_toArray, List.getElem_cons_zero, List.getElem_cons_succ, Act.put, List.setIfInBounds_toArray, List.set_cons_zero, List.set_cons_succ, e17, e19, e21, e22, e24, e26, e29] at hK ⊢
        go_simp
        exact hK.out _ _ hw (Below.refl _ _) (⟨g29, c29, rfl, r29, n29, z29⟩)
      exact Inv.Steps.nil
    · intro σ wx hw hd
      obtain ⟨g30, c30, e30, r30, n30, z30⟩ : ∃ g_ c_, (σ 30) = .agg #[.string ⟨⟨s0⟩⟩, .string ⟨⟨s1⟩⟩, .string ⟨⟨s2⟩⟩, .string ⟨⟨s3⟩⟩, .int .i64 (st : Int), .int .i64 0, .int .i64 (nu : Int), .int .i64 (de : Int), .int .i64 bd, .int .i64 (ru : Int), .int .i64 (se : Int), .slice (some ⟨g_, 0, none⟩) L.length c_] ∧ Rec.SR wx g_ L ∧ L.length ≤ c_ ∧ w3.heap.size ≤ g_ := hd 14 (some 30) (by rfl) (by rfl)
      simp only [e30]
      have KR9 := hbk hw KR.out
      refine Inv.one (i := 15) (by decide) (by kernel_rfl) (by rfl) (fun K hK => ?_)
      simp only [List.getElem_toArray, List.getElem_cons_zero, List.getElem_cons_succ, Act.put, List.setIfInBounds_toArray, List.set_cons_zero, List.set_cons_succ] at hK ⊢
      refine wp_store_row 50 (.tmp 2) (.tmp 30) rfl (p1 + 1) #[.string ⟨⟨s0⟩⟩, .string ⟨⟨s1⟩⟩, .string ⟨⟨s2⟩⟩, .string ⟨⟨s3⟩⟩, .int .i64 (st : Int), .int .i64 0, .int .i64 (nu : Int), .int .i64 (de : Int), .int .i64 bd, .int .i64 (ru : Int), .int .i64 (se : Int), .slice (some ⟨g30, 0, none⟩) L.length c30] (by simp [Act.eval]) (by simp [Act.eval]) 50 #[.string ⟨#[]⟩, .string ⟨#[]⟩, .string ⟨#[]⟩, .string ⟨#[]⟩, .int .i64 0, .int .i64 0, .int .i64 0, .int .i64 0, .int .i64 0, .int .i64 0, .int .i64 0, .slice none 0 0] KR9 (by kernel_rfl) rfl (by simp [Value.oneCell']) ?_
      have KZ := Lib.hid (setRow_heap _ _ _ #[.string ⟨⟨s0⟩⟩, .string ⟨⟨s1⟩⟩, .string ⟨⟨s2⟩⟩, .string ⟨⟨s3⟩⟩, .int .i64 (st : Int), .int .i64 0, .int .i64 (nu : Int), .int .i64 (de : Int), .int .i64 bd, .int .i64 (ru : Int), .int .i64 (se : Int), .slice (some ⟨g30, 0, none⟩) L.length c30] _ _ KR9)
      have SZ : Hid (Rec.SR (wx.setRow (p1 + 1) #[.string ⟨⟨s0⟩⟩, .string ⟨⟨s1⟩⟩, .string ⟨⟨s2⟩⟩, .string ⟨⟨s3⟩⟩, .int .i64 (st : Int), .int .i64 0, .int .i64 (nu : Int), .int .i64 (de : Int), .int .i64 bd, .int .i64 (ru : Int), .int .i64 (se : Int), .slice (some ⟨g30, 0, none⟩) L.length c30]) g30 L) := Lib.hid (r30.kept (setRow_other _ _ _ _ (by have := (Array.getElem?_eq_some_iff.1 KR.out).1; omega)) (by simp [World.setRow]))
      have BZ := Lib.hid (Mid.below_row (Buf.then_ B1.out hw) (p1 + 1) #[.string ⟨⟨s0⟩⟩, .string ⟨⟨s1⟩⟩, .string ⟨⟨s2⟩⟩, .string ⟨⟨s3⟩⟩, .int .i64 (st : Int), .int .i64 0, .int .i64 (nu : Int), .int .i64 (de : Int), .int .i64 bd, .int .i64 (ru : Int), .int .i64 (se : Int), .slice (some ⟨g30, 0, none⟩) L.length c30] (by have := hpw.out; omega))
      refine hK.out _ _ ?_
      clear hK K hd
      refine Inv.take (i := 16) (v := .int .i64 0) (by decide) rfl (by kernel_rfl) (by kernel_rfl) (by kernel_rfl) (fun _ _ _ h => h) (by rfl) (fun w' => ?_) ?_
      · simp only [List.getElem_toArray, List.getElem_cons_zero, List.getElem_cons_succ]
        go_simp
      try simp only [Act.put, List.setIfInBounds_toArray, List.set_cons_zero, List.set_cons_succ]
      refine Inv.done (by kernel_rfl) (NoPanic.normal ?_)
      clear r30 KR9 hw
      go_wp2_with fail
      refine bodyPost_ret (Res.row_tmp rfl _ _ (p1 + 1) _ _ _ _ rfl KZ.out rfl (by rfl) rfl) rfl ⟨⟨g30, c30, rfl, SZ.out, n30⟩, BZ.out⟩
end Pkt
end Go.Proofs.YtfebacopbacopaaDoor
