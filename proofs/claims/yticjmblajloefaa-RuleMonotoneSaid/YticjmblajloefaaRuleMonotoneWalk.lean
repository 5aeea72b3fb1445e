/- RuleMonotone: the walk. -/
import Derived.Test.YticjmblajloefaaRuleK
set_option linter.unusedVariables false
set_option linter.unusedSimpArgs false
namespace Go.Proofs.Yticjmblajloefaa
open Go.RowKit
open Go.Proofs.Yticjmblajloefaa.Ru
namespace Laws
theorem rw_range {w : World} {g n c : Nat} {M P F D : Nat → Int} (h : RW w g n c M P F D) (q : Nat) (hq : q < n) : w.rangeAt g (q * 4) [.int .i64 (M q), .int .i64 (P q), .int .i64 (F q), .int .i64 (D q)] := fun j v hj => by
  rcases j with _ | _ | _ | _ | j
  · cases hj; exact h.at0 q hq
  · cases hj; exact h.at1 q hq
  · cases hj; exact h.at2 q hq
  · cases hj; exact h.at3 q hq
  · simp at hj
set_option maxRecDepth 100000 in
set_option maxHeartbeats 8000000 in
theorem ruleMonotone_walk (a0 : Option Addr) (len0 cap0 : Nat) (z0 : List Int) (w : World) (w0 : Buf.IsRow .i64 w a0 len0 cap0 z0) :
    Calls Try.prog 3 #[.slice a0 len0 cap0] w fun e w' => e = .returned (.bool true) ∧ Below w.heap.size w w' := by
  go_enter Try.func3, Try.ntmps3
  go_wp2_with fail
  refine (Src.new_any a0 len0 cap0 z0 w w0).mono ?_
  rintro e w1 ⟨rfl, nn, D1⟩
  have g1 := D1.lt
  go_wp2_with fail
  refine (policy_any D1).mono ?_
  rintro e v0 ⟨⟨gb, n, c, M, P, F, E, Ds, Ev, rfl, R, n3, d0, d9, e0, e9, hgb⟩, l0⟩
  have gbn : gb ≠ w.heap.size := by omega
  replace R := Lib.hid R
  replace l0 := Lib.hid l0
  clear D1
  go_wp2_with fail
  refine (event_any l0.out.di 1).mono ?_
  rintro e v1 ⟨⟨s0, s1, s2, s3, n1, n2, n3, n4, n5, pa, pn, pc, X, Y, Z, T, Mi, Lo, A1, A2, A3, A4, A5, A6, L, H, C, rfl, pv, t0, t9, hLH⟩, l⟩
  replace R := Lib.hid (R.out.of_block l.far.size (l.far.block gb R.out.lt (by simpa using gbn)))
  have l1 := Lib.hid (l0.out.trans l)
  clear l
  go_upto_region 3 with (first | ((with_reducible refine Mid.str 27 (.tmp 4) (.tmp 13) v1.heap.size 27 #[.slice none 0 0, .int .i64 0, .int .i64 0] #[.slice (some ⟨gb, 0, none⟩) n c, .int .i64 Ds, .int .i64 Ev] (Geo.blk_alloc (Geo.blk_new v1 _) _) ?_ ?_ ?_ ?_ ?_ ?_ ?_ ?_); (· rfl); (· rfl); (· first | rfl | simp [Act.eval]); (· first | rfl | simp [Act.eval]); (· kernel_rfl); (· rfl); (· simp [Value.oneCell'])) | ((with_reducible refine Mid.str 45 (.tmp 5) (.tmp 15) (v1.heap.size + 1) 45 #[.string ⟨#[]⟩, .string ⟨#[]⟩, .string ⟨#[]⟩, .string ⟨#[]⟩, .int .i64 0, .int .i64 0, .int .i64 0, .int .i64 0, .int .i64 0, .slice none 0 0, .int .i64 0, .int .i64 0, .int .i64 0, .int .i64 0, .int .i64 0, .int .i64 0, .int .i64 0, .int .i64 0, .int .i64 0, .int .i64 0, .int .i64 0, .int .i64 0, .int .i64 0, .int .i64 0, .int .i64 0] #[.string s0, .string s1, .string s2, .string s3, .int .i64 n1, .int .i64 n2, .int .i64 n3, .int .i64 n4, .int .i64 n5, .slice pa pn pc, .int .i64 X, .int .i64 Y, .int .i64 Z, .int .i64 T, .int .i64 Mi, .int .i64 Lo, .int .i64 A1, .int .i64 A2, .int .i64 A3, .int .i64 A4, .int .i64 A5, .int .i64 A6, .int .i64 L, .int .i64 H, .int .i64 C] ((setRow_other _ _ _ _ (by omega)).trans (Geo.blk_new1 v1 _ _)) ?_ ?_ ?_ ?_ ?_ ?_ ?_ ?_); (· rfl); (· rfl); (· first | rfl | simp [Act.eval]); (· first | rfl | simp [Act.eval]); (· kernel_rfl); (· rfl); (· simp [Value.oneCell'])))
  have q0 := Lib.hid (show ((((v1.alloc (.cells #[.slice none 0 0, .int .i64 0, .int .i64 0] 27)).alloc (.cells #[.string ⟨#[]⟩, .string ⟨#[]⟩, .string ⟨#[]⟩, .string ⟨#[]⟩, .int .i64 0, .int .i64 0, .int .i64 0, .int .i64 0, .int .i64 0, .slice none 0 0, .int .i64 0, .int .i64 0, .int .i64 0, .int .i64 0, .int .i64 0, .int .i64 0, .int .i64 0, .int .i64 0, .int .i64 0, .int .i64 0, .int .i64 0, .int .i64 0, .int .i64 0, .int .i64 0, .int .i64 0] 45)).setRow v1.heap.size #[.slice (some ⟨gb, 0, none⟩) n c, .int .i64 Ds, .int .i64 Ev]).setRow (v1.heap.size + 1) #[.string s0, .string s1, .string s2, .string s3, .int .i64 n1, .int .i64 n2, .int .i64 n3, .int .i64 n4, .int .i64 n5, .slice pa pn pc, .int .i64 X, .int .i64 Y, .int .i64 Z, .int .i64 T, .int .i64 Mi, .int .i64 Lo, .int .i64 A1, .int .i64 A2, .int .i64 A3, .int .i64 A4, .int .i64 A5, .int .i64 A6, .int .i64 L, .int .i64 H, .int .i64 C]).heap[v1.heap.size]? = some (.cells #[.slice (some ⟨gb, 0, none⟩) n c, .int .i64 Ds, .int .i64 Ev] 27 (0, 0)) from ((setRow_other _ _ _ _ (by omega)).trans (setRow_heap _ _ _ _ _ _ (Geo.blk_alloc (Geo.blk_new v1 _) _))))
  have q1 := Lib.hid (show ((((v1.alloc (.cells #[.slice none 0 0, .int .i64 0, .int .i64 0] 27)).alloc (.cells #[.string ⟨#[]⟩, .string ⟨#[]⟩, .string ⟨#[]⟩, .string ⟨#[]⟩, .int .i64 0, .int .i64 0, .int .i64 0, .int .i64 0, .int .i64 0, .slice none 0 0, .int .i64 0, .int .i64 0, .int .i64 0, .int .i64 0, .int .i64 0, .int .i64 0, .int .i64 0, .int .i64 0, .int .i64 0, .int .i64 0, .int .i64 0, .int .i64 0, .int .i64 0, .int .i64 0, .int .i64 0] 45)).setRow v1.heap.size #[.slice (some ⟨gb, 0, none⟩) n c, .int .i64 Ds, .int .i64 Ev]).setRow (v1.heap.size + 1) #[.string s0, .string s1, .string s2, .string s3, .int .i64 n1, .int .i64 n2, .int .i64 n3, .int .i64 n4, .int .i64 n5, .slice pa pn pc, .int .i64 X, .int .i64 Y, .int .i64 Z, .int .i64 T, .int .i64 Mi, .int .i64 Lo, .int .i64 A1, .int .i64 A2, .int .i64 A3, .int .i64 A4, .int .i64 A5, .int .i64 A6, .int .i64 L, .int .i64 H, .int .i64 C]).heap[(v1.heap.size + 1)]? = some (.cells #[.string s0, .string s1, .string s2, .string s3, .int .i64 n1, .int .i64 n2, .int .i64 n3, .int .i64 n4, .int .i64 n5, .slice pa pn pc, .int .i64 X, .int .i64 Y, .int .i64 Z, .int .i64 T, .int .i64 Mi, .int .i64 Lo, .int .i64 A1, .int .i64 A2, .int .i64 A3, .int .i64 A4, .int .i64 A5, .int .i64 A6, .int .i64 L, .int .i64 H, .int .i64 C] 45 (0, 0)) from (setRow_heap _ _ _ _ _ _ ((setRow_other _ _ _ _ (by omega)).trans (Geo.blk_new1 v1 _ _))))
  have BB := Lib.hid (show Below v1.heap.size v1 ((((v1.alloc (.cells #[.slice none 0 0, .int .i64 0, .int .i64 0] 27)).alloc (.cells #[.string ⟨#[]⟩, .string ⟨#[]⟩, .string ⟨#[]⟩, .string ⟨#[]⟩, .int .i64 0, .int .i64 0, .int .i64 0, .int .i64 0, .int .i64 0, .slice none 0 0, .int .i64 0, .int .i64 0, .int .i64 0, .int .i64 0, .int .i64 0, .int .i64 0, .int .i64 0, .int .i64 0, .int .i64 0, .int .i64 0, .int .i64 0, .int .i64 0, .int .i64 0, .int .i64 0, .int .i64 0] 45)).setRow v1.heap.size #[.slice (some ⟨gb, 0, none⟩) n c, .int .i64 Ds, .int .i64 Ev]).setRow (v1.heap.size + 1) #[.string s0, .string s1, .string s2, .string s3, .int .i64 n1, .int .i64 n2, .int .i64 n3, .int .i64 n4, .int .i64 n5, .slice pa pn pc, .int .i64 X, .int .i64 Y, .int .i64 Z, .int .i64 T, .int .i64 Mi, .int .i64 Lo, .int .i64 A1, .int .i64 A2, .int .i64 A3, .int .i64 A4, .int .i64 A5, .int .i64 A6, .int .i64 L, .int .i64 H, .int .i64 C]) from (Mid.below_row (Mid.below_row (((Below.refl v1.heap.size v1).alloc (Nat.le_refl _) _).alloc (by simp) _) _ _ (by omega)) _ _ (by omega)))
  have zB := Lib.hid (show ((((v1.alloc (.cells #[.slice none 0 0, .int .i64 0, .int .i64 0] 27)).alloc (.cells #[.string ⟨#[]⟩, .string ⟨#[]⟩, .string ⟨#[]⟩, .string ⟨#[]⟩, .int .i64 0, .int .i64 0, .int .i64 0, .int .i64 0, .int .i64 0, .slice none 0 0, .int .i64 0, .int .i64 0, .int .i64 0, .int .i64 0, .int .i64 0, .int .i64 0, .int .i64 0, .int .i64 0, .int .i64 0, .int .i64 0, .int .i64 0, .int .i64 0, .int .i64 0, .int .i64 0, .int .i64 0] 45)).setRow v1.heap.size #[.slice (some ⟨gb, 0, none⟩) n c, .int .i64 Ds, .int .i64 Ev]).setRow (v1.heap.size + 1) #[.string s0, .string s1, .string s2, .string s3, .int .i64 n1, .int .i64 n2, .int .i64 n3, .int .i64 n4, .int .i64 n5, .slice pa pn pc, .int .i64 X, .int .i64 Y, .int .i64 Z, .int .i64 T, .int .i64 Mi, .int .i64 Lo, .int .i64 A1, .int .i64 A2, .int .i64 A3, .int .i64 A4, .int .i64 A5, .int .i64 A6, .int .i64 L, .int .i64 H, .int .i64 C]).heap.size = v1.heap.size + 1 + 1 by simp [World.setRow])
  generalize ((((v1.alloc (.cells #[.slice none 0 0, .int .i64 0, .int .i64 0] 27)).alloc (.cells #[.string ⟨#[]⟩, .string ⟨#[]⟩, .string ⟨#[]⟩, .string ⟨#[]⟩, .int .i64 0, .int .i64 0, .int .i64 0, .int .i64 0, .int .i64 0, .slice none 0 0, .int .i64 0, .int .i64 0, .int .i64 0, .int .i64 0, .int .i64 0, .int .i64 0, .int .i64 0, .int .i64 0, .int .i64 0, .int .i64 0, .int .i64 0, .int .i64 0, .int .i64 0, .int .i64 0, .int .i64 0] 45)).setRow v1.heap.size #[.slice (some ⟨gb, 0, none⟩) n c, .int .i64 Ds, .int .i64 Ev]).setRow (v1.heap.size + 1) #[.string s0, .string s1, .string s2, .string s3, .int .i64 n1, .int .i64 n2, .int .i64 n3, .int .i64 n4, .int .i64 n5, .slice pa pn pc, .int .i64 X, .int .i64 Y, .int .i64 Z, .int .i64 T, .int .i64 Mi, .int .i64 Lo, .int .i64 A1, .int .i64 A2, .int .i64 A3, .int .i64 A4, .int .i64 A5, .int .i64 A6, .int .i64 L, .int .i64 H, .int .i64 C]) = wB at *
  replace R := Lib.hid (R.out.below BB.out)
  have Dk := Lib.hid (l1.out.di.below BB.out)
  have BW := Lib.hid (Dk.out.bel)
  have zk := l1.out.di.lt
  have zB' := zB.out
  have Q0 := Lib.hid fun w' (hC : Below wB.heap.size wB w') => (hC.block _ (by omega)).trans q0.out
  have Q1 := Lib.hid fun w' (hC : Below wB.heap.size wB w') => (hC.block _ (by omega)).trans q1.out
  clear q0 q1 BB
  have nb0 : v1.heap.size ≠ w.heap.size := by omega
  have nb1 : (v1.heap.size + 1) ≠ w.heap.size := by omega
  have P0 := Lib.hid (Q0.out _ (Below.refl _ _))
  have P1 := Lib.hid (Q1.out _ (Below.refl _ _))
  have hn1 := R.out.n1
  have hn8 := R.out.n8
  have hnc := R.out.le
  refine wp_region_noPanic ?_
  refine wp_region_any (by kernel_rfl) ?_
  refine Inv.wpAny_inv (fun k => k == 10) [16, 17, 18, 19, 20, 21, 22, 23, 24, 6] (fun w' => Src.Left w wB w' w.heap.size a0 nn cap0 z0) (fun _ w1 w2 => w1.grownBy w2 (some w.heap.size)) (fun k => ([fun v_ w_ => v_ = .pointer (some ⟨v1.heap.size, 0, none⟩), fun v_ w_ => v_ = .slice (some ⟨gb, 0, none⟩) n c, fun v_ w_ => v_ = .pointer (some ⟨w.heap.size, 0, none⟩), fun v_ w_ => v_ = .pointer (some ⟨v1.heap.size, 0, none⟩), fun v_ w_ => v_ = .slice (some ⟨gb, 0, none⟩) n c, fun v_ w_ => v_ = .int .i64 (n : Nat), fun v_ w_ => ∃ q : Nat, v_ = .int .i64 (q : Nat) ∧ q < n, fun v_ w_ => ∃ q : Nat, v_ = .pointer (some ⟨gb, q * 4, none⟩) ∧ q < n, fun v_ w_ => ∃ q : Nat, v_ = .agg #[.int .i64 (M q), .int .i64 (P q), .int .i64 (F q), .int .i64 (E q)] ∧ q < n, fun v_ w_ => ∃ b : Nat, v_ = .pointer (some ⟨b, 0, none⟩) ∧ wB.heap.size ≤ b ∧ b < w_.heap.size ∧ w_.heap[b]? = some (.cells #[.int .i64 0, .int .i64 0, .int .i64 0, .int .i64 0] 48 (0, 0)), fun v_ w_ => True] : List (Value → World → Prop)).getD k (fun _ _ => True)) _ (fun σ => by simp only [Inv.putAll, List.foldl_cons, List.foldl_nil, Act.put, List.setIfInBounds_toArray, List.set_cons_zero, List.set_cons_succ]; rfl) (by kernel_rfl) (by kernel_rfl) ?_ ((Src.Left.refl Dk.out).drew) ?_ ?_ 1 #[true, true, true, true, true, true, true, true, true, true, false] (by kernel_rfl) (by kernel_rfl) ?_
  · intro j k v w1 w2 hjk hv hr
    rcases k with _ | k
    · exact hv
    rcases k with _ | k
    · exact hv
    rcases k with _ | k
    · exact hv
    rcases k with _ | k
    · exact hv
    rcases k with _ | k
    · exact hv
    rcases k with _ | k
    · exact hv
    rcases k with _ | k
    · exact hv
    rcases k with _ | k
    · exact hv
    rcases k with _ | k
    · exact hv
    rcases k with _ | k
    · exact by obtain ⟨b, h1, h2, h3, h4⟩ := hv; exact ⟨b, h1, h2, Nat.lt_of_lt_of_le h3 hr.size, (hr.block b h3 (by simp; omega)).trans h4⟩
    rcases k with _ | k
    · exact hv
    · exact hv
  · intro k t hl hd
    rcases k with _ | k
    · exact absurd hl (by decide +kernel)
    rcases k with _ | k
    · exact absurd hl (by decide +kernel)
    rcases k with _ | k
    · exact absurd hl (by decide +kernel)
    rcases k with _ | k
    · exact absurd hl (by decide +kernel)
    rcases k with _ | k
    · exact absurd hl (by decide +kernel)
    rcases k with _ | k
    · exact absurd hl (by decide +kernel)
    rcases k with _ | k
    · exact absurd hl (by decide +kernel)
    rcases k with _ | k
    · exact absurd hl (by decide +kernel)
    rcases k with _ | k
    · exact absurd hl (by decide +kernel)
    rcases k with _ | k
    · exact absurd hl (by decide +kernel)
    rcases k with _ | k
    · exact absurd hl (by decide +kernel)
    · simp at hd
  · show Inv.Steps _ _ _ _ _ _ _ _ [0, 1, 2, 3, 4, 5, 6, 7, 8, 9]
    refine Inv.Steps.go (by decide) (by rfl) (fun σ wx hw hd K hK => ?_) ?_
    · simp only [List.getElem_toArray, List.getElem_cons_zero, List.getElem_cons_succ, Act.put, List.setIfInBounds_toArray, List.set_cons_zero, List.set_cons_succ] at hK ⊢
      go_simp
      exact hK.out _ _ hw (Src.grown_of_below (Below.refl _ _)) (rfl)
    refine Inv.Steps.go (by decide) (by rfl) (fun σ wx hw hd K hK => ?_) ?_
    · obtain e16 : (σ 16) = .pointer (some ⟨v1.heap.size, 0, none⟩) := hd 0 (some 16) (by kernel_rfl) (by rfl)
      simp only [List.getElem_toArray, List.getElem_cons_zero, List.getElem_cons_succ, Act.put, List.setIfInBounds_toArray, List.set_cons_zero, List.set_cons_succ, e16] at hK ⊢
      have hc : wx.cell? ⟨v1.heap.size, 0, none⟩ = some (.slice (some ⟨gb, 0, none⟩) n c) := cell_of_row _ _ 0 _ _ _ (hw.blk P0.out nb0)
      go_simp
      exact hK.out _ _ hw (Src.grown_of_below (Below.refl _ _)) (rfl)
    refine Inv.Steps.go (by decide) (by rfl) (fun σ wx hw hd K hK => ?_) ?_
    · simp only [List.getElem_toArray, List.getElem_cons_zero, List.getElem_cons_succ, Act.put, List.setIfInBounds_toArray, List.set_cons_zero, List.set_cons_succ] at hK ⊢
      go_simp
      exact hK.out _ _ hw (Src.grown_of_below (Below.refl _ _)) (rfl)
    refine Inv.Steps.go (by decide) (by rfl) (fun σ wx hw hd K hK => ?_) ?_
    · simp only [List.getElem_toArray, List.getElem_cons_zero, List.getElem_cons_succ, Act.put, List.setIfInBounds_toArray, List.set_cons_zero, List.set_cons_succ] at hK ⊢
      go_simp
      exact hK.out _ _ hw (Src.grown_of_below (Below.refl _ _)) (rfl)
    refine Inv.Steps.go (by decide) (by rfl) (fun σ wx hw hd K hK => ?_) ?_
    · obtain e19 : (σ 19) = .pointer (some ⟨v1.heap.size, 0, none⟩) := hd 3 (some 19) (by kernel_rfl) (by rfl)
      simp only [List.getElem_toArray, List.getElem_cons_zero, List.getElem_cons_succ, Act.put, List.setIfInBounds_toArray, List.set_cons_zero, List.set_cons_succ, e19] at hK ⊢
      have hc : wx.cell? ⟨v1.heap.size, 0, none⟩ = some (.slice (some ⟨gb, 0, none⟩) n c) := cell_of_row _ _ 0 _ _ _ (hw.blk P0.out nb0)
      go_simp
      exact hK.out _ _ hw (Src.grown_of_below (Below.refl _ _)) (rfl)
    refine Inv.Steps.go (by decide) (by rfl) (fun σ wx hw hd K hK => ?_) ?_
    · obtain e20 : (σ 20) = .slice (some ⟨gb, 0, none⟩) n c := hd 4 (some 20) (by kernel_rfl) (by rfl)
      simp only [List.getElem_toArray, List.getElem_cons_zero, List.getElem_cons_succ, Act.put, List.setIfInBounds_toArray, List.set_cons_zero, List.set_cons_succ, e20] at hK ⊢
      go_simp
      exact hK.out _ _ hw (Src.grown_of_below (Below.refl _ _)) (rfl)
    refine Inv.Steps.go (by decide) (by rfl) (fun σ wx hw hd K hK => ?_) ?_
    · obtain e18 : (σ 18) = .pointer (some ⟨w.heap.size, 0, none⟩) := hd 2 (some 18) (by kernel_rfl) (by rfl)
      obtain e21 : (σ 21) = .int .i64 (n : Nat) := hd 5 (some 21) (by kernel_rfl) (by rfl)
      simp only [List.getElem_toArray, List.getElem_cons_zero, List.getElem_cons_succ, Act.put, List.setIfInBounds_toArray, List.set_cons_zero, List.set_cons_succ, e18, e21] at hK ⊢
      go_simp
      go_at_call 9
      refine (Src.n_any (n : Int) hw.di (by omega) (by omega)).mono ?_
      rintro e w1 ⟨⟨v, rfl, v0, v1⟩, hl⟩
      obtain ⟨q, rfl⟩ := Int.eq_ofNat_of_zero_le v0
      dsimp only
      exact hK.out _ _ (hw.trans hl) hl.far (⟨q, rfl, by omega⟩)
    refine Inv.Steps.go (by decide) (by rfl) (fun σ wx hw hd K hK => ?_) ?_
    · obtain e17 : (σ 17) = .slice (some ⟨gb, 0, none⟩) n c := hd 1 (some 17) (by kernel_rfl) (by rfl)
      obtain ⟨q22, e22, l22⟩ : ∃ q : Nat, (σ 22) = .int .i64 (q : Nat) ∧ q < n := hd 6 (some 22) (by kernel_rfl) (by rfl)
      simp only [List.getElem_toArray, List.getElem_cons_zero, List.getElem_cons_succ, Act.put, List.setIfInBounds_toArray, List.set_cons_zero, List.set_cons_succ, e17, e22] at hK ⊢
      have hq : (q22 : Int) < n := by omega
      go_simp
      exact hK.out _ _ hw (Src.grown_of_below (Below.refl _ _)) (⟨q22, rfl, l22⟩)
    refine Inv.Steps.go (by decide) (by rfl) (fun σ wx hw hd K hK => ?_) ?_
    · obtain ⟨q23, e23, l23⟩ : ∃ q : Nat, (σ 23) = .pointer (some ⟨gb, q * 4, none⟩) ∧ q < n := hd 7 (some 23) (by kernel_rfl) (by rfl)
      simp only [List.getElem_toArray, List.getElem_cons_zero, List.getElem_cons_succ, Act.put, List.setIfInBounds_toArray, List.set_cons_zero, List.set_cons_succ, e23] at hK ⊢
      have hr4 := rw_range (R.out.of_block hw.far.size (hw.far.block gb R.out.lt (by simpa using gbn))) q23 l23
      refine wp_load_mid 48 (.tmp 23) rfl gb (q23 * 4) rfl [.int .i64 (M q23), .int .i64 (P q23), .int .i64 (F q23), .int .i64 (E q23)] _ hr4 rfl rfl rfl ?_
      simp only [Act.put, List.setIfInBounds_toArray, List.set_cons_zero, List.set_cons_succ, List.toArray]
      exact hK.out _ _ hw (Src.grown_of_below (Below.refl _ _)) (⟨q23, rfl, l23⟩)
    refine Inv.Steps.go (by decide) (by rfl) (fun σ wx hw hd K hK => ?_) ?_
    · simp only [List.getElem_toArray, List.getElem_cons_zero, List.getElem_cons_succ, Act.put, List.setIfInBounds_toArray, List.set_cons_zero, List.set_cons_succ] at hK ⊢
      have hsz := hw.far.size
      go_simp
      exact hK.out _ _ (hw.alloc _) (Src.grown_of_below ((Below.refl wx.heap.size wx).alloc (Nat.le_refl _) _) : World.grownBy wx _ (some w.heap.size)) (⟨wx.heap.size, rfl, hsz, by simp, heap_alloc_new _ _⟩)
    exact Inv.Steps.nil
  · intro σ wx hw hd
    obtain ⟨q24, e24, l24⟩ : ∃ q : Nat, (σ 24) = .agg #[.int .i64 (M q), .int .i64 (P q), .int .i64 (F q), .int .i64 (E q)] ∧ q < n := hd 8 (some 24) (by rfl) (by rfl)
    obtain ⟨b6, e6, le6, lt6, c6⟩ : ∃ b : Nat, (σ 6) = .pointer (some ⟨b, 0, none⟩) ∧ wB.heap.size ≤ b ∧ b < wx.heap.size ∧ wx.heap[b]? = some (.cells #[.int .i64 0, .int .i64 0, .int .i64 0, .int .i64 0] 48 (0, 0)) := hd 9 (some 6) (by rfl) (by rfl)
    refine Inv.one (i := 10) (by decide) (by kernel_rfl) (by rfl) (fun K hK => ?_)
    simp only [List.getElem_toArray, List.getElem_cons_zero, List.getElem_cons_succ, Act.put, List.setIfInBounds_toArray, List.set_cons_zero, List.set_cons_succ, e24, e6] at hK ⊢
    refine wp_store_row 48 (.tmp 6) (.tmp 24) rfl b6 #[.int .i64 (M q24), .int .i64 (P q24), .int .i64 (F q24), .int .i64 (E q24)] rfl rfl 48 #[.int .i64 0, .int .i64 0, .int .i64 0, .int .i64 0] c6 rfl rfl (by simp [Value.oneCell']) ?_
    refine hK.out _ _ (Inv.done (by kernel_rfl) (NoPanic.normal ?_))
    clear hK K
    have C6 := Lib.hid (setRow_heap wx b6 _ #[.int .i64 (M q24), .int .i64 (P q24), .int .i64 (F q24), .int .i64 (E q24)] _ _ c6)
    have P0c := Lib.hid ((setRow_other wx b6 v1.heap.size #[.int .i64 (M q24), .int .i64 (P q24), .int .i64 (F q24), .int .i64 (E q24)] (by omega)).trans (hw.blk P0.out nb0))
    have P1c := Lib.hid ((setRow_other wx b6 (v1.heap.size + 1) #[.int .i64 (M q24), .int .i64 (P q24), .int .i64 (F q24), .int .i64 (E q24)] (by omega)).trans (hw.blk P1.out nb1))
    have RC := Lib.hid (RW.of_block (w' := wx.setRow b6 #[.int .i64 (M q24), .int .i64 (P q24), .int .i64 (F q24), .int .i64 (E q24)]) (R.out.of_block hw.far.size (hw.far.block gb R.out.lt (by simpa using gbn))) (by simp [World.setRow]) (setRow_other wx b6 gb #[.int .i64 (M q24), .int .i64 (P q24), .int .i64 (F q24), .int .i64 (E q24)] (by have := R.out.lt; omega)))
    have LC := Lib.hid (Src.Left.past Dk.out hw (Mid.below_row (Below.refl wB.heap.size wx) b6 #[.int .i64 (M q24), .int .i64 (P q24), .int .i64 (F q24), .int .i64 (E q24)] le6))
    obtain ⟨vb0, vb1, vb2, vb3, vb4, vb5, vb6, vb7⟩ := R.out.val q24 l24
    clear c6 hw hd e24 lt6
    generalize wx.setRow b6 #[.int .i64 (M q24), .int .i64 (P q24), .int .i64 (F q24), .int .i64 (E q24)] = wC at *
    generalize M q24 = m0 at *
    generalize P q24 = p0 at *
    generalize F q24 = f0 at *
    generalize E q24 = x0 at *
    clear e6 P0 P1
    have n6 : b6 ≠ w.heap.size := by omega
    have hne6 := LC.out.far.size
    go_wp2_with fail
    refine wp_region_noPanic ?_
    refine wp_region_any (by kernel_rfl) ?_
    refine Inv.wpAny_inv (fun k => k == 20) [25, 26, 27, 28, 29, 30, 31, 32, 33, 34, 35, 36, 37, 38, 39, 40, 41, 42, 43, 7] (fun w' => Src.Left w wC w' w.heap.size a0 nn cap0 z0) (fun _ w1 w2 => w1.grownBy w2 (some w.heap.size)) (fun k => ([fun v_ w_ => v_ = .pointer (some ⟨b6, 0, none⟩), fun v_ w_ => v_ = .int .i64 m0, fun v_ w_ => v_ = .pointer (some ⟨w.heap.size, 0, none⟩), fun v_ w_ => ∃ z : Int, v_ = .int .i64 z ∧ 0 ≤ z ∧ z < 50, fun v_ w_ => ∃ z : Int, v_ = .int .i64 z ∧ z ≤ m0, fun v_ w_ => v_ = .pointer (some ⟨b6, 1, none⟩), fun v_ w_ => v_ = .int .i64 p0, fun v_ w_ => v_ = .pointer (some ⟨w.heap.size, 0, none⟩), fun v_ w_ => ∃ z : Int, v_ = .int .i64 z ∧ 0 ≤ z ∧ z < 3, fun v_ w_ => ∃ z : Int, v_ = .int .i64 z ∧ -2 ≤ z ∧ z ≤ p0, fun v_ w_ => ∃ z : Int, v_ = .int .i64 z ∧ z ≤ p0, fun v_ w_ => v_ = .pointer (some ⟨b6, 2, none⟩), fun v_ w_ => v_ = .int .i64 f0, fun v_ w_ => v_ = .pointer (some ⟨w.heap.size, 0, none⟩), fun v_ w_ => ∃ z : Int, v_ = .int .i64 z ∧ 0 ≤ z ∧ z < 50, fun v_ w_ => ∃ z : Int, v_ = .int .i64 z ∧ f0 ≤ z, fun v_ w_ => v_ = .pointer (some ⟨b6, 3, none⟩), fun v_ w_ => v_ = .int .i64 x0, fun v_ w_ => ∃ y0 y1 y2 : Int, v_ = .agg #[.int .i64 y0, .int .i64 y1, .int .i64 y2, .int .i64 x0] ∧ y0 ≤ m0 ∧ y1 ≤ p0 ∧ f0 ≤ y2, fun v_ w_ => ∃ b : Nat, v_ = .pointer (some ⟨b, 0, none⟩) ∧ wC.heap.size ≤ b ∧ b < w_.heap.size ∧ w_.heap[b]? = some (.cells #[.int .i64 0, .int .i64 0, .int .i64 0, .int .i64 0] 48 (0, 0)), fun v_ w_ => True] : List (Value → World → Prop)).getD k (fun _ _ => True)) _ (fun σ => by simp only [Inv.putAll, List.foldl_cons, List.foldl_nil, Act.put, List.setIfInBounds_toArray, List.set_cons_zero, List.set_cons_succ]; rfl) (by kernel_rfl) (by kernel_rfl) ?_ ((Src.Left.refl LC.out.di).drew) ?_ ?_ 1 #[true, true, true, true, true, true, true, true, true, true, true, true, true, true, true, true, true, true, true, true, false] (by kernel_rfl) (by kernel_rfl) ?_
    · intro j k v w1 w2 hjk hv hr
      rcases k with _ | k
      · exact hv
      rcases k with _ | k
      · exact hv
      rcases k with _ | k
      · exact hv
      rcases k with _ | k
      · exact hv
      rcases k with _ | k
      · exact hv
      rcases k with _ | k
      · exact hv
      rcases k with _ | k
      · exact hv
      rcases k with _ | k
      · exact hv
      rcases k with _ | k
      · exact hv
      rcases k with _ | k
      · exact hv
      rcases k with _ | k
      · exact hv
      rcases k with _ | k
      · exact hv
      rcases k with _ | k
      · exact hv
      rcases k with _ | k
      · exact hv
      rcases k with _ | k
      · exact hv
      rcases k with _ | k
      · exact hv
      rcases k with _ | k
      · exact hv
      rcases k with _ | k
      · exact hv
      rcases k with _ | k
      · exact hv
      rcases k with _ | k
      · exact by obtain ⟨b, h1, h2, h3, h4⟩ := hv; exact ⟨b, h1, h2, Nat.lt_of_lt_of_le h3 hr.size, (hr.block b h3 (by simp; omega)).trans h4⟩
      rcases k with _ | k
      · exact hv
      · exact hv
    · intro k t hl hd
      rcases k with _ | k
      · exact absurd hl (by decide +kernel)
      rcases k with _ | k
      · exact absurd hl (by decide +kernel)
      rcases k with _ | k
      · exact absurd hl (by decide +kernel)
      rcases k with _ | k
      · exact absurd hl (by decide +kernel)
      rcases k with _ | k
      · exact absurd hl (by decide +kernel)
      rcases k with _ | k
      · exact absurd hl (by decide +kernel)
      rcases k with _ | k
      · exact absurd hl (by decide +kernel)
      rcases k with _ | k
      · exact absurd hl (by decide +kernel)
      rcases k with _ | k
      · exact absurd hl (by decide +kernel)
      rcases k with _ | k
      · exact absurd hl (by decide +kernel)
      rcases k with _ | k
      · exact absurd hl (by decide +kernel)
      rcases k with _ | k
      · exact absurd hl (by decide +kernel)
      rcases k with _ | k
      · exact absurd hl (by decide +kernel)
      rcases k with _ | k
      · exact absurd hl (by decide +kernel)
      rcases k with _ | k
      · exact absurd hl (by decide +kernel)
      rcases k with _ | k
      · exact absurd hl (by decide +kernel)
      rcases k with _ | k
      · exact absurd hl (by decide +kernel)
      rcases k with _ | k
      · exact absurd hl (by decide +kernel)
      rcases k with _ | k
      · exact absurd hl (by decide +kernel)
      rcases k with _ | k
      · exact absurd hl (by decide +kernel)
      rcases k with _ | k
      · exact absurd hl (by decide +kernel)
      · simp at hd
    · show Inv.Steps _ _ _ _ _ _ _ _ [0, 1, 2, 3, 4, 5, 6, 7, 8, 9, 10, 11, 12, 13, 14, 15, 16, 17, 18, 19]
      refine Inv.Steps.go (by decide) (by rfl) (fun σ wx hw hd K hK => ?_) ?_
      · simp only [List.getElem_toArray, List.getElem_cons_zero, List.getElem_cons_succ, Act.put, List.setIfInBounds_toArray, List.set_cons_zero, List.set_cons_succ] at hK ⊢
        go_simp
        exact hK.out _ _ hw (Src.grown_of_below (Below.refl _ _)) (rfl)
      refine Inv.Steps.go (by decide) (by rfl) (fun σ wx hw hd K hK => ?_) ?_
      · obtain e25 : (σ 25) = .pointer (some ⟨b6, 0, none⟩) := hd 0 (some 25) (by kernel_rfl) (by rfl)
        simp only [List.getElem_toArray, List.getElem_cons_zero, List.getElem_cons_succ, Act.put, List.setIfInBounds_toArray, List.set_cons_zero, List.set_cons_succ, e25] at hK ⊢
        have hc : wx.cell? ⟨b6, 0, none⟩ = some (.int .i64 m0) := cell_of_row _ _ 0 _ _ _ (hw.blk C6.out n6)
        go_simp
        exact hK.out _ _ hw (Src.grown_of_below (Below.refl _ _)) (rfl)
      refine Inv.Steps.go (by decide) (by rfl) (fun σ wx hw hd K hK => ?_) ?_
      · simp only [List.getElem_toArray, List.getElem_cons_zero, List.getElem_cons_succ, Act.put, List.setIfInBounds_toArray, List.set_cons_zero, List.set_cons_succ] at hK ⊢
        go_simp
        exact hK.out _ _ hw (Src.grown_of_below (Below.refl _ _)) (rfl)
      refine Inv.Steps.go (by decide) (by rfl) (fun σ wx hw hd K hK => ?_) ?_
      · obtain e27 : (σ 27) = .pointer (some ⟨w.heap.size, 0, none⟩) := hd 2 (some 27) (by kernel_rfl) (by rfl)
        simp only [List.getElem_toArray, List.getElem_cons_zero, List.getElem_cons_succ, Act.put, List.setIfInBounds_toArray, List.set_cons_zero, List.set_cons_succ, e27] at hK ⊢
        go_simp
        go_at_call 9
        refine (Src.n_any 50 hw.di (by omega) (by omega)).mono ?_
        rintro e w1 ⟨⟨v, rfl, v0, v1⟩, hl⟩
        dsimp only
        exact hK.out _ _ (hw.trans hl) hl.far (⟨_, rfl, v0, v1⟩)
      refine Inv.Steps.go (by decide) (by rfl) (fun σ wx hw hd K hK => ?_) ?_
      · obtain e26 : (σ 26) = .int .i64 m0 := hd 1 (some 26) (by kernel_rfl) (by rfl)
        obtain ⟨z28, e28, a28, b28⟩ : ∃ z : Int, (σ 28) = .int .i64 z ∧ 0 ≤ z ∧ z < 50 := hd 3 (some 28) (by kernel_rfl) (by rfl)
        simp only [List.getElem_toArray, List.getElem_cons_zero, List.getElem_cons_succ, Act.put, List.setIfInBounds_toArray, List.set_cons_zero, List.set_cons_succ, e26, e28] at hK ⊢
        go_simp
        rw [IntWalk.i64_in (m0 - z28) (by omega)]
        exact hK.out _ _ hw (Src.grown_of_below (Below.refl _ _)) (⟨_, rfl, by omega⟩)
      refine Inv.Steps.go (by decide) (by rfl) (fun σ wx hw hd K hK => ?_) ?_
      · simp only [List.getElem_toArray, List.getElem_cons_zero, List.getElem_cons_succ, Act.put, List.setIfInBounds_toArray, List.set_cons_zero, List.set_cons_succ] at hK ⊢
        go_simp
        exact hK.out _ _ hw (Src.grown_of_below (Below.refl _ _)) (rfl)
      refine Inv.Steps.go (by decide) (by rfl) (fun σ wx hw hd K hK => ?_) ?_
      · obtain e30 : (σ 30) = .pointer (some ⟨b6, 1, none⟩) := hd 5 (some 30) (by kernel_rfl) (by rfl)
        simp only [List.getElem_toArray, List.getElem_cons_zero, List.getElem_cons_succ, Act.put, List.setIfInBounds_toArray, List.set_cons_zero, List.set_cons_succ, e30] at hK ⊢
        have hc : wx.cell? ⟨b6, 1, none⟩ = some (.int .i64 p0) := cell_of_row _ _ 1 _ _ _ (hw.blk C6.out n6)
        go_simp
        exact hK.out _ _ hw (Src.grown_of_below (Below.refl _ _)) (rfl)
      refine Inv.Steps.go (by decide) (by rfl) (fun σ wx hw hd K hK => ?_) ?_
      · simp only [List.getElem_toArray, List.getElem_cons_zero, List.getElem_cons_succ, Act.put, List.setIfInBounds_toArray, List.set_cons_zero, List.set_cons_succ] at hK ⊢
        go_simp
        exact hK.out _ _ hw (Src.grown_of_below (Below.refl _ _)) (rfl)
      refine Inv.Steps.go (by decide) (by rfl) (fun σ wx hw hd K hK => ?_) ?_
      · obtain e32 : (σ 32) = .pointer (some ⟨w.heap.size, 0, none⟩) := hd 7 (some 32) (by kernel_rfl) (by rfl)
        simp only [List.getElem_toArray, List.getElem_cons_zero, List.getElem_cons_succ, Act.put, List.setIfInBounds_toArray, List.set_cons_zero, List.set_cons_succ, e32] at hK ⊢
        go_simp
        go_at_call 9
        refine (Src.n_any 3 hw.di (by omega) (by omega)).mono ?_
        rintro e w1 ⟨⟨v, rfl, v0, v1⟩, hl⟩
        dsimp only
        exact hK.out _ _ (hw.trans hl) hl.far (⟨_, rfl, v0, v1⟩)
      refine Inv.Steps.go (by decide) (by rfl) (fun σ wx hw hd K hK => ?_) ?_
      · obtain e31 : (σ 31) = .int .i64 p0 := hd 6 (some 31) (by kernel_rfl) (by rfl)
        obtain ⟨z33, e33, a33, b33⟩ : ∃ z : Int, (σ 33) = .int .i64 z ∧ 0 ≤ z ∧ z < 3 := hd 8 (some 33) (by kernel_rfl) (by rfl)
        simp only [List.getElem_toArray, List.getElem_cons_zero, List.getElem_cons_succ, Act.put, List.setIfInBounds_toArray, List.set_cons_zero, List.set_cons_succ, e31, e33] at hK ⊢
        go_simp
        rw [IntWalk.i64_in (p0 - z33) (by omega)]
        exact hK.out _ _ hw (Src.grown_of_below (Below.refl _ _)) (⟨_, rfl, by omega, by omega⟩)
      refine Inv.Steps.go (by decide) (by rfl) (fun σ wx hw hd K hK => ?_) ?_
      · obtain ⟨z34, e34, a34, b34⟩ : ∃ z : Int, (σ 34) = .int .i64 z ∧ -2 ≤ z ∧ z ≤ p0 := hd 9 (some 34) (by kernel_rfl) (by rfl)
        simp only [List.getElem_toArray, List.getElem_cons_zero, List.getElem_cons_succ, Act.put, List.setIfInBounds_toArray, List.set_cons_zero, List.set_cons_succ, e34] at hK ⊢
        rcases Int.le_total 1 z34 with hmx | hmx
        have hq : max 1 z34 = z34 := by omega
        go_simp
        exact hK.out _ _ hw (Src.grown_of_below (Below.refl _ _)) (⟨_, rfl, by omega⟩)
        have hq : max 1 z34 = 1 := by omega
        go_simp
        exact hK.out _ _ hw (Src.grown_of_below (Below.refl _ _)) (⟨_, rfl, by omega⟩)
      refine Inv.Steps.go (by decide) (by rfl) (fun σ wx hw hd K hK => ?_) ?_
      · simp only [List.getElem_toArray, List.getElem_cons_zero, List.getElem_cons_succ, Act.put, List.setIfInBounds_toArray, List.set_cons_zero, List.set_cons_succ] at hK ⊢
        go_simp
        exact hK.out _ _ hw (Src.grown_of_below (Below.refl _ _)) (rfl)
      refine Inv.Steps.go (by decide) (by rfl) (fun σ wx hw hd K hK => ?_) ?_
      · obtain e36 : (σ 36) = .pointer (some ⟨b6, 2, none⟩) := hd 11 (some 36) (by kernel_rfl) (by rfl)
        simp only [List.getElem_toArray, List.getElem_cons_zero, List.getElem_cons_succ, Act.put, List.setIfInBounds_toArray, List.set_cons_zero, List.set_cons_succ, e36] at hK ⊢
        have hc : wx.cell? ⟨b6, 2, none⟩ = some (.int .i64 f0) := cell_of_row _ _ 2 _ _ _ (hw.blk C6.out n6)
        go_simp
        exact hK.out _ _ hw (Src.grown_of_below (Below.refl _ _)) (rfl)
      refine Inv.Steps.go (by decide) (by rfl) (fun σ wx hw hd K hK => ?_) ?_
      · simp only [List.getElem_toArray, List.getElem_cons_zero, List.getElem_cons_succ, Act.put, List.setIfInBounds_toArray, List.set_cons_zero, List.set_cons_succ] at hK ⊢
        go_simp
        exact hK.out _ _ hw (Src.grown_of_below (Below.refl _ _)) (rfl)
      refine Inv.Steps.go (by decide) (by rfl) (fun σ wx hw hd K hK => ?_) ?_
      · obtain e38 : (σ 38) = .pointer (some ⟨w.heap.size, 0, none⟩) := hd 13 (some 38) (by kernel_rfl) (by rfl)
        simp only [List.getElem_toArray, List.getElem_cons_zero, List.getElem_cons_succ, Act.put, List.setIfInBounds_toArray, List.set_cons_zero, List.set_cons_succ, e38] at hK ⊢
        go_simp
        go_at_call 9
        refine (Src.n_any 50 hw.di (by omega) (by omega)).mono ?_
        rintro e w1 ⟨⟨v, rfl, v0, v1⟩, hl⟩
        dsimp only
        exact hK.out _ _ (hw.trans hl) hl.far (⟨_, rfl, v0, v1⟩)
      refine Inv.Steps.go (by decide) (by rfl) (fun σ wx hw hd K hK => ?_) ?_
      · obtain e37 : (σ 37) = .int .i64 f0 := hd 12 (some 37) (by kernel_rfl) (by rfl)
        obtain ⟨z39, e39, a39, b39⟩ : ∃ z : Int, (σ 39) = .int .i64 z ∧ 0 ≤ z ∧ z < 50 := hd 14 (some 39) (by kernel_rfl) (by rfl)
        simp only [List.getElem_toArray, List.getElem_cons_zero, List.getElem_cons_succ, Act.put, List.setIfInBounds_toArray, List.set_cons_zero, List.set_cons_succ, e37, e39] at hK ⊢
        go_simp
        rw [IntWalk.i64_in (f0 + z39) (by omega)]
        exact hK.out _ _ hw (Src.grown_of_below (Below.refl _ _)) (⟨_, rfl, by omega⟩)
      refine Inv.Steps.go (by decide) (by rfl) (fun σ wx hw hd K hK => ?_) ?_
      · simp only [List.getElem_toArray, List.getElem_cons_zero, List.getElem_cons_succ, Act.put, List.setIfInBounds_toArray, List.set_cons_zero, List.set_cons_succ] at hK ⊢
        go_simp
        exact hK.out _ _ hw (Src.grown_of_below (Below.refl _ _)) (rfl)
      refine Inv.Steps.go (by decide) (by rfl) (fun σ wx hw hd K hK => ?_) ?_
      · obtain e41 : (σ 41) = .pointer (some ⟨b6, 3, none⟩) := hd 16 (some 41) (by kernel_rfl) (by rfl)
        simp only [List.getElem_toArray, List.getElem_cons_zero, List.getElem_cons_succ, Act.put, List.setIfInBounds_toArray, List.set_cons_zero, List.set_cons_succ, e41] at hK ⊢
        have hc : wx.cell? ⟨b6, 3, none⟩ = some (.int .i64 x0) := cell_of_row _ _ 3 _ _ _ (hw.blk C6.out n6)
        go_simp
        exact hK.out _ _ hw (Src.grown_of_below (Below.refl _ _)) (rfl)
      refine Inv.Steps.go (by decide) (by rfl) (fun σ wx hw hd K hK => ?_) ?_
      · obtain ⟨z29, e29, a29⟩ : ∃ z : Int, (σ 29) = .int .i64 z ∧ z ≤ m0 := hd 4 (some 29) (by kernel_rfl) (by rfl)
        obtain ⟨z35, e35, a35⟩ : ∃ z : Int, (σ 35) = .int .i64 z ∧ z ≤ p0 := hd 10 (some 35) (by kernel_rfl) (by rfl)
        obtain ⟨z40, e40, a40⟩ : ∃ z : Int, (σ 40) = .int .i64 z ∧ f0 ≤ z := hd 15 (some 40) (by kernel_rfl) (by rfl)
        obtain e42 : (σ 42) = .int .i64 x0 := hd 17 (some 42) (by kernel_rfl) (by rfl)
        simp only [List.getElem_toArray, List.getElem_cons_zero, List.getElem_cons_succ, Act.put, List.setIfInBounds_toArray, List.set_cons_zero, List.set_cons_succ, e29, e35, e40, e42] at hK ⊢
        go_simp
        exact hK.out _ _ hw (Src.grown_of_below (Below.refl _ _)) (⟨_, _, _, rfl, a29, a35, a40⟩)
      refine Inv.Steps.go (by decide) (by rfl) (fun σ wx hw hd K hK => ?_) ?_
      · simp only [List.getElem_toArray, List.getElem_cons_zero, List.getElem_cons_succ, Act.put, List.setIfInBounds_toArray, List.set_cons_zero, List.set_cons_succ] at hK ⊢
        have hsz := hw.far.size
        go_simp
        exact hK.out _ _ (hw.alloc _) (Src.grown_of_below ((Below.refl wx.heap.size wx).alloc (Nat.le_refl _) _) : World.grownBy wx _ (some w.heap.size)) (⟨wx.heap.size, rfl, hsz, by simp, heap_alloc_new _ _⟩)
      exact Inv.Steps.nil
    · intro σ wx hw hd
      obtain ⟨y0, y1, y2, e43, a43, b43, c43⟩ : ∃ y0 y1 y2 : Int, (σ 43) = .agg #[.int .i64 y0, .int .i64 y1, .int .i64 y2, .int .i64 x0] ∧ y0 ≤ m0 ∧ y1 ≤ p0 ∧ f0 ≤ y2 := hd 18 (some 43) (by rfl) (by rfl)
      obtain ⟨b7, e7, le7, lt7, c7⟩ : ∃ b : Nat, (σ 7) = .pointer (some ⟨b, 0, none⟩) ∧ wC.heap.size ≤ b ∧ b < wx.heap.size ∧ wx.heap[b]? = some (.cells #[.int .i64 0, .int .i64 0, .int .i64 0, .int .i64 0] 48 (0, 0)) := hd 19 (some 7) (by rfl) (by rfl)
      refine Inv.one (i := 20) (by decide) (by kernel_rfl) (by rfl) (fun K hK => ?_)
      simp only [List.getElem_toArray, List.getElem_cons_zero, List.getElem_cons_succ, Act.put, List.setIfInBounds_toArray, List.set_cons_zero, List.set_cons_succ, e43, e7] at hK ⊢
      refine wp_store_row 48 (.tmp 7) (.tmp 43) rfl b7 #[.int .i64 y0, .int .i64 y1, .int .i64 y2, .int .i64 x0] rfl rfl 48 #[.int .i64 0, .int .i64 0, .int .i64 0, .int .i64 0] c7 rfl rfl (by simp [Value.oneCell']) ?_
      refine hK.out _ _ (Inv.done (by kernel_rfl) (NoPanic.normal ?_))
      clear hK K
      have D7 := Lib.hid (setRow_heap wx b7 _ #[.int .i64 y0, .int .i64 y1, .int .i64 y2, .int .i64 x0] _ _ c7)
      have D6 := Lib.hid ((setRow_other wx b7 b6 #[.int .i64 y0, .int .i64 y1, .int .i64 y2, .int .i64 x0] (by have := (Array.getElem?_eq_some_iff.1 C6.out).1; omega)).trans (hw.blk C6.out n6))
      have P0d := Lib.hid ((setRow_other wx b7 v1.heap.size #[.int .i64 y0, .int .i64 y1, .int .i64 y2, .int .i64 x0] (by omega)).trans (hw.blk P0c.out nb0))
      have P1d := Lib.hid ((setRow_other wx b7 (v1.heap.size + 1) #[.int .i64 y0, .int .i64 y1, .int .i64 y2, .int .i64 x0] (by omega)).trans (hw.blk P1c.out nb1))
      have RD := Lib.hid (RW.of_block (w' := wx.setRow b7 #[.int .i64 y0, .int .i64 y1, .int .i64 y2, .int .i64 x0]) (RC.out.of_block hw.far.size (hw.far.block gb RC.out.lt (by simpa using gbn))) (by simp [World.setRow]) (setRow_other wx b7 gb #[.int .i64 y0, .int .i64 y1, .int .i64 y2, .int .i64 x0] (by have := RC.out.lt; omega)))
      have LD := Lib.hid (Src.Left.past LC.out.di hw (Mid.below_row (Below.refl wC.heap.size wx) b7 #[.int .i64 y0, .int .i64 y1, .int .i64 y2, .int .i64 x0] le7))
      have BWd := Lib.hid (LD.out.di.bel)
      clear c7 hw hd e43 lt7 P0c P1c RC LC C6 BW Dk
      generalize wx.setRow b7 #[.int .i64 y0, .int .i64 y1, .int .i64 y2, .int .i64 x0] = wD at *
      clear e7
      have hs6 := (Array.getElem?_eq_some_iff.1 D6.out).1
      have hs7 := (Array.getElem?_eq_some_iff.1 D7.out).1
      have hs0 := (Array.getElem?_eq_some_iff.1 P0d.out).1
      have hs1 := (Array.getElem?_eq_some_iff.1 P1d.out).1
      have U6 := Lib.hid fun w' (hC : Below wD.heap.size wD w') => (hC.block _ hs6).trans D6.out
      have U7 := Lib.hid fun w' (hC : Below wD.heap.size wD w') => (hC.block _ hs7).trans D7.out
      have U0 := Lib.hid fun w' (hC : Below wD.heap.size wD w') => (hC.block _ hs0).trans P0d.out
      have U1 := Lib.hid fun w' (hC : Below wD.heap.size wD w') => (hC.block _ hs1).trans P1d.out
      have UM := Lib.hid fun (rM rP rF rW : Int) w' (hC : Below wD.heap.size wD w') => meets_any rM rP rF rW s0 s1 s2 s3 n1 n2 n3 n4 n5 pa pn pc X Y Z T Mi Lo A1 A2 A3 A4 A5 A6 L H C w'
      obtain ⟨la, hla⟩ : ∃ la, lev (mq M P F pn Mi L C) n = la := ⟨_, rfl⟩
      have hle := lev_le (mq M P F pn Mi L C) n
      rw [hla] at hle
      have hat := lev_at (mq M P F pn Mi L C) n
      rw [hla] at hat
      have hnt := lev_not (mq M P F pn Mi L C) n
      rw [hla] at hnt
      have CL := Lib.hid fun w' (hC : Below wD.heap.size wD w') => by have h := level_any gb n c M P F E Ds Ev s0 s1 s2 s3 n1 n2 n3 n4 n5 pa pn pc X Y Z T Mi Lo A1 A2 A3 A4 A5 A6 L H C w' (RD.out.below hC) d0 (by omega) e0 (by omega); rw [hla] at h; exact h
      have AT : Hid (∀ u, u < n → la = u + 1 → decide (Mt (M u) (P u) (F u) pn Mi L C) = true) := Lib.hid (fun u hu hl => by have := hat (by omega); rw [hl] at this; exact this)
      have NT : Hid (∀ j, la ≤ j → j < n → decide (Mt (M j) (P j) (F j) pn Mi L C) = false) := Lib.hid (fun j h1 h2 => hnt j h1 h2)
      clear hat hnt
      have BC := Lib.hid (Below.refl wD.heap.size wD)
      replace hla := Lib.hid hla
      dsimp only [Act.put]
      go_upto_region 5 with fail
      go_cut [52] (fun s52 wx => s52 = .bool false ∧ Hid (Below wD.heap.size wD wx))
      case first =>
        by_cases hmt : Mt m0 p0 f0 pn Mi L C
        · have hmw : Mt y0 y1 y2 pn Mi L C := ⟨hmt.1, Int.le_trans a43 hmt.2.1, Int.le_trans b43 hmt.2.2.1, Int.le_trans hmt.2.2.2 c43⟩
          go_wp2_with (first | ((with_reducible refine Mid.ldrg 48 (.tmp 6) b6 48 #[.int .i64 m0, .int .i64 p0, .int .i64 f0, .int .i64 x0] (U6.out _ BC.out) ?_ ?_ ?_ ?_ ?_ ?_); (· rfl); (· rfl); (· first | rfl | simp [Act.eval]); (· exact ⟨_, rfl, rfl⟩); (· kernel_rfl)) | ((with_reducible refine Mid.ldrg 48 (.tmp 7) b7 48 #[.int .i64 y0, .int .i64 y1, .int .i64 y2, .int .i64 x0] (U7.out _ BC.out) ?_ ?_ ?_ ?_ ?_ ?_); (· rfl); (· rfl); (· first | rfl | simp [Act.eval]); (· exact ⟨_, rfl, rfl⟩); (· kernel_rfl)) | ((with_reducible refine Mid.ldrg 45 (.tmp 5) (v1.heap.size + 1) 45 #[.string s0, .string s1, .string s2, .string s3, .int .i64 n1, .int .i64 n2, .int .i64 n3, .int .i64 n4, .int .i64 n5, .slice pa pn pc, .int .i64 X, .int .i64 Y, .int .i64 Z, .int .i64 T, .int .i64 Mi, .int .i64 Lo, .int .i64 A1, .int .i64 A2, .int .i64 A3, .int .i64 A4, .int .i64 A5, .int .i64 A6, .int .i64 L, .int .i64 H, .int .i64 C] (U1.out _ BC.out) ?_ ?_ ?_ ?_ ?_ ?_); (· rfl); (· rfl); (· first | rfl | simp [Act.eval]); (· exact ⟨_, rfl, rfl⟩); (· kernel_rfl)) | (go_at_call 10; (with_reducible refine (UM.out m0 p0 f0 x0 _ BC.out).mono ?_); rintro e w3 ⟨rfl, hb⟩; rw [decide_eq_true hmt]; replace BC := Lib.hid (BC.out.trans (hb.mono BC.out.size)); clear hb) | (go_at_call 10; (with_reducible refine (UM.out y0 y1 y2 x0 _ BC.out).mono ?_); rintro e w3 ⟨rfl, hb⟩; rw [decide_eq_true hmw]; replace BC := Lib.hid (BC.out.trans (hb.mono BC.out.size)); clear hb))
          go_meet
          exact ⟨rfl, BC⟩
        · go_wp2_with (first | ((with_reducible refine Mid.ldrg 48 (.tmp 6) b6 48 #[.int .i64 m0, .int .i64 p0, .int .i64 f0, .int .i64 x0] (U6.out _ BC.out) ?_ ?_ ?_ ?_ ?_ ?_); (· rfl); (· rfl); (· first | rfl | simp [Act.eval]); (· exact ⟨_, rfl, rfl⟩); (· kernel_rfl)) | ((with_reducible refine Mid.ldrg 48 (.tmp 7) b7 48 #[.int .i64 y0, .int .i64 y1, .int .i64 y2, .int .i64 x0] (U7.out _ BC.out) ?_ ?_ ?_ ?_ ?_ ?_); (· rfl); (· rfl); (· first | rfl | simp [Act.eval]); (· exact ⟨_, rfl, rfl⟩); (· kernel_rfl)) | ((with_reducible refine Mid.ldrg 45 (.tmp 5) (v1.heap.size + 1) 45 #[.string s0, .string s1, .string s2, .string s3, .int .i64 n1, .int .i64 n2, .int .i64 n3, .int .i64 n4, .int .i64 n5, .slice pa pn pc, .int .i64 X, .int .i64 Y, .int .i64 Z, .int .i64 T, .int .i64 Mi, .int .i64 Lo, .int .i64 A1, .int .i64 A2, .int .i64 A3, .int .i64 A4, .int .i64 A5, .int .i64 A6, .int .i64 L, .int .i64 H, .int .i64 C] (U1.out _ BC.out) ?_ ?_ ?_ ?_ ?_ ?_); (· rfl); (· rfl); (· first | rfl | simp [Act.eval]); (· exact ⟨_, rfl, rfl⟩); (· kernel_rfl)) | (go_at_call 10; (with_reducible refine (UM.out m0 p0 f0 x0 _ BC.out).mono ?_); rintro e w3 ⟨rfl, hb⟩; rw [decide_eq_false hmt]; replace BC := Lib.hid (BC.out.trans (hb.mono BC.out.size)); clear hb))
          go_meet
          exact ⟨rfl, BC⟩
      case rest =>
        obtain ⟨rfl, BC⟩ := hcut
        go_wp2_with (first | ((with_reducible refine Mid.ldrg 27 (.tmp 4) v1.heap.size 27 #[.slice (some ⟨gb, 0, none⟩) n c, .int .i64 Ds, .int .i64 Ev] (U0.out _ BC.out) ?_ ?_ ?_ ?_ ?_ ?_); (· rfl); (· rfl); (· first | rfl | simp [Act.eval]); (· exact ⟨_, rfl, rfl⟩); (· kernel_rfl)) | ((with_reducible refine Mid.ldrg 45 (.tmp 5) (v1.heap.size + 1) 45 #[.string s0, .string s1, .string s2, .string s3, .int .i64 n1, .int .i64 n2, .int .i64 n3, .int .i64 n4, .int .i64 n5, .slice pa pn pc, .int .i64 X, .int .i64 Y, .int .i64 Z, .int .i64 T, .int .i64 Mi, .int .i64 Lo, .int .i64 A1, .int .i64 A2, .int .i64 A3, .int .i64 A4, .int .i64 A5, .int .i64 A6, .int .i64 L, .int .i64 H, .int .i64 C] (U1.out _ BC.out) ?_ ?_ ?_ ?_ ?_ ?_); (· rfl); (· rfl); (· first | rfl | simp [Act.eval]); (· exact ⟨_, rfl, rfl⟩); (· kernel_rfl)) | (go_at_call 11; (with_reducible refine (CL.out _ BC.out).mono ?_); rintro e w4 ⟨rfl, hb⟩; replace BC := Lib.hid (BC.out.trans (hb.mono BC.out.size)); clear hb))
        have hl0 : (0 : Int) ≤ la := by omega
        have hl1 : decide ((la : Int) < 0) = false := decide_eq_false (by omega)
        have hln : (la : Int) ≤ n := by omega
        have hl2 : decide ((n : Int) < la) = false := decide_eq_false (by omega)
        clear CL
        go_cut [79] (fun s79 wx => s79 = .bool false ∧ Hid (Below wD.heap.size wD wx))
        case first =>
          rcases la with _ | u
          · have hz : ((0 : Nat) : Int) = 0 := rfl
            rw [hz] at *
            refine wp_region_noPanic ?_
            refine wp_region_any (by kernel_rfl) ?_
            refine Inv.wpAny_inv (fun k => false) [56, 57, 58, 59, 60, 61, 62, 63, 64, 65, 66, 67, 68, 69, 70, 71, 72, 73, 74, 75, 76, 77, 78, 79] (fun w' => Below wD.heap.size wD w') (fun _ _ _ => True) (fun k => ([fun v_ w_ => v_ = .int .i64 0, fun v_ w_ => v_ = .bool false, fun v_ w_ => v_ = .bool false, fun v_ w_ => v_ = .int .i64 0, fun v_ w_ => v_ = .pointer (some ⟨v1.heap.size, 0, none⟩), fun v_ w_ => v_ = .slice (some ⟨gb, 0, none⟩) n c, fun v_ w_ => v_ = .int .i64 (n : Nat), fun v_ w_ => v_ = .bool false, fun v_ w_ => v_ = .bool false, fun v_ w_ => v_ = .bool false, fun v_ w_ => v_ = .int .i64 0, fun v_ w_ => v_ = .bool false, fun v_ w_ => v_ = .bool false, fun v_ w_ => True, fun v_ w_ => True, fun v_ w_ => True, fun v_ w_ => True, fun v_ w_ => True, fun v_ w_ => True, fun v_ w_ => True, fun v_ w_ => True, fun v_ w_ => True, fun v_ w_ => v_ = .bool false, fun v_ w_ => v_ = .bool false] : List (Value → World → Prop)).getD k (fun _ _ => True)) _ (fun σ => by simp only [Inv.putAll, List.foldl_cons, List.foldl_nil, Act.put, List.setIfInBounds_toArray, List.set_cons_zero, List.set_cons_succ]; rfl) (by kernel_rfl) (by kernel_rfl) ?_ (BC.out.drew) ?_ ?_ 0 #[true, true, true, true, true, true, true, true, true, true, true, true, true, true, true, true, true, true, true, true, true, true, true, true] (by kernel_rfl) (by kernel_rfl) ?_
            · intro j k v w1 w2 hjk hv hr
              rcases k with _ | k
              · exact hv
              rcases k with _ | k
              · exact hv
              rcases k with _ | k
              · exact hv
              rcases k with _ | k
              · exact hv
              rcases k with _ | k
              · exact hv
              rcases k with _ | k
              · exact hv
              rcases k with _ | k
              · exact hv
              rcases k with _ | k
              · exact hv
              rcases k with _ | k
              · exact hv
              rcases k with _ | k
              · exact hv
              rcases k with _ | k
              · exact hv
              rcases k with _ | k
              · exact hv
              rcases k with _ | k
              · exact hv
              rcases k with _ | k
              · exact hv
              rcases k with _ | k
              · exact hv
              rcases k with _ | k
              · exact hv
              rcases k with _ | k
              · exact hv
              rcases k with _ | k
              · exact hv
              rcases k with _ | k
              · exact hv
              rcases k with _ | k
              · exact hv
              rcases k with _ | k
              · exact hv
              rcases k with _ | k
              · exact hv
              rcases k with _ | k
              · exact hv
              rcases k with _ | k
              · exact hv
              · exact hv
            · intro k t hl hd
              rcases k with _ | k
              · exact absurd hl (by decide +kernel)
              rcases k with _ | k
              · exact absurd hl (by decide +kernel)
              rcases k with _ | k
              · exact absurd hl (by decide +kernel)
              rcases k with _ | k
              · exact absurd hl (by decide +kernel)
              rcases k with _ | k
              · exact absurd hl (by decide +kernel)
              rcases k with _ | k
              · exact absurd hl (by decide +kernel)
              rcases k with _ | k
              · exact absurd hl (by decide +kernel)
              rcases k with _ | k
              · exact absurd hl (by decide +kernel)
              rcases k with _ | k
              · exact absurd hl (by decide +kernel)
              rcases k with _ | k
              · exact absurd hl (by decide +kernel)
              rcases k with _ | k
              · exact absurd hl (by decide +kernel)
              rcases k with _ | k
              · exact absurd hl (by decide +kernel)
              rcases k with _ | k
              · exact absurd hl (by decide +kernel)
              rcases k with _ | k
              · exact absurd hl (by decide +kernel)
              rcases k with _ | k
              · exact absurd hl (by decide +kernel)
              rcases k with _ | k
              · exact absurd hl (by decide +kernel)
              rcases k with _ | k
              · exact absurd hl (by decide +kernel)
              rcases k with _ | k
              · exact absurd hl (by decide +kernel)
              rcases k with _ | k
              · exact absurd hl (by decide +kernel)
              rcases k with _ | k
              · exact absurd hl (by decide +kernel)
              rcases k with _ | k
              · exact absurd hl (by decide +kernel)
              rcases k with _ | k
              · exact absurd hl (by decide +kernel)
              rcases k with _ | k
              · exact absurd hl (by decide +kernel)
              rcases k with _ | k
              · exact absurd hl (by decide +kernel)
              · simp at hd
            · show Inv.Steps _ _ _ _ _ _ _ _ [0, 1, 2, 3, 4, 5, 6, 7, 8, 9, 10, 11, 12, 13, 14, 15, 16, 17, 18, 19, 20, 21, 22, 23]
              refine Inv.Steps.go (by decide) (by rfl) (fun σ wx hw hd K hK => ?_) ?_
              · simp only [List.getElem_toArray, List.getElem_cons_zero, List.getElem_cons_succ, Act.put, List.setIfInBounds_toArray, List.set_cons_zero, List.set_cons_succ] at hK ⊢
                go_simp
                exact hK.out _ _ hw trivial (rfl)
              refine Inv.Steps.go (by decide) (by rfl) (fun σ wx hw hd K hK => ?_) ?_
              · obtain e56 : (σ 56) = .int .i64 0 := hd 0 (some 56) (by kernel_rfl) (by rfl)
                simp only [List.getElem_toArray, List.getElem_cons_zero, List.getElem_cons_succ, Act.put, List.setIfInBounds_toArray, List.set_cons_zero, List.set_cons_succ, e56] at hK ⊢
                go_simp
                exact hK.out _ _ hw trivial (rfl)
              refine Inv.Steps.go (by decide) (by rfl) (fun σ wx hw hd K hK => ?_) ?_
              · obtain e57 : (σ 57) = .bool false := hd 1 (some 57) (by kernel_rfl) (by rfl)
                simp only [List.getElem_toArray, List.getElem_cons_zero, List.getElem_cons_succ, Act.put, List.setIfInBounds_toArray, List.set_cons_zero, List.set_cons_succ, e57] at hK ⊢
                go_simp
                exact hK.out _ _ hw trivial (rfl)
              refine Inv.Steps.on (by decide) 2 58 false (by rfl) (by rfl) (fun σ wx hw hd => ?_) ?_
              · obtain e58 : (σ 58) = .bool false := hd 2 (some 58) (by kernel_rfl) (by rfl)
                refine ⟨by simp [e58], fun K hK => ?_⟩
                simp only [List.getElem_toArray, List.getElem_cons_zero, List.getElem_cons_succ, Act.put, List.setIfInBounds_toArray, List.set_cons_zero, List.set_cons_succ, e58] at hK ⊢
                go_simp
                exact hK.out _ _ hw trivial (rfl)
              refine Inv.Steps.on (by decide) 2 58 false (by rfl) (by rfl) (fun σ wx hw hd => ?_) ?_
              · obtain e58 : (σ 58) = .bool false := hd 2 (some 58) (by kernel_rfl) (by rfl)
                refine ⟨by simp [e58], fun K hK => ?_⟩
                simp only [List.getElem_toArray, List.getElem_cons_zero, List.getElem_cons_succ, Act.put, List.setIfInBounds_toArray, List.set_cons_zero, List.set_cons_succ, e58] at hK ⊢
                go_simp
                exact hK.out _ _ hw trivial (rfl)
              refine Inv.Steps.on (by decide) 2 58 false (by rfl) (by rfl) (fun σ wx hw hd => ?_) ?_
              · obtain e58 : (σ 58) = .bool false := hd 2 (some 58) (by kernel_rfl) (by rfl)
                obtain e60 : (σ 60) = .pointer (some ⟨v1.heap.size, 0, none⟩) := hd 4 (some 60) (by kernel_rfl) (by rfl)
                refine ⟨by simp [e58], fun K hK => ?_⟩
                simp only [List.getElem_toArray, List.getElem_cons_zero, List.getElem_cons_succ, Act.put, List.setIfInBounds_toArray, List.set_cons_zero, List.set_cons_succ, e58, e60] at hK ⊢
                have hc : wx.cell? ⟨v1.heap.size, 0, none⟩ = some (.slice (some ⟨gb, 0, none⟩) n c) := cell_of_row _ _ 0 _ _ _ (U0.out _ hw)
                go_simp
                exact hK.out _ _ hw trivial (rfl)
              refine Inv.Steps.on (by decide) 2 58 false (by rfl) (by rfl) (fun σ wx hw hd => ?_) ?_
              · obtain e58 : (σ 58) = .bool false := hd 2 (some 58) (by kernel_rfl) (by rfl)
                obtain e61 : (σ 61) = .slice (some ⟨gb, 0, none⟩) n c := hd 5 (some 61) (by kernel_rfl) (by rfl)
                refine ⟨by simp [e58], fun K hK => ?_⟩
                simp only [List.getElem_toArray, List.getElem_cons_zero, List.getElem_cons_succ, Act.put, List.setIfInBounds_toArray, List.set_cons_zero, List.set_cons_succ, e58, e61] at hK ⊢
                go_simp
                exact hK.out _ _ hw trivial (rfl)
              refine Inv.Steps.on (by decide) 2 58 false (by rfl) (by rfl) (fun σ wx hw hd => ?_) ?_
              · obtain e58 : (σ 58) = .bool false := hd 2 (some 58) (by kernel_rfl) (by rfl)
                obtain e59 : (σ 59) = .int .i64 0 := hd 3 (some 59) (by kernel_rfl) (by rfl)
                obtain e62 : (σ 62) = .int .i64 (n : Nat) := hd 6 (some 62) (by kernel_rfl) (by rfl)
                refine ⟨by simp [e58], fun K hK => ?_⟩
                simp only [List.getElem_toArray, List.getElem_cons_zero, List.getElem_cons_succ, Act.put, List.setIfInBounds_toArray, List.set_cons_zero, List.set_cons_succ, e58, e59, e62] at hK ⊢
                go_simp
                exact hK.out _ _ hw trivial (by show (_ : Value) = _; first | rfl | exact congrArg Value.bool (decide_eq_false (by omega)))
              refine Inv.Steps.go (by decide) (by rfl) (fun σ wx hw hd K hK => ?_) ?_
              · obtain e58 : (σ 58) = .bool false := hd 2 (some 58) (by kernel_rfl) (by rfl)
                obtain e63 : (σ 63) = .bool false := hd 7 (some 63) (by kernel_rfl) (by rfl)
                simp only [List.getElem_toArray, List.getElem_cons_zero, List.getElem_cons_succ, Act.put, List.setIfInBounds_toArray, List.set_cons_zero, List.set_cons_succ, e58, e63] at hK ⊢
                go_simp
                exact hK.out _ _ hw trivial (rfl)
              refine Inv.Steps.go (by decide) (by rfl) (fun σ wx hw hd K hK => ?_) ?_
              · obtain e64 : (σ 64) = .bool false := hd 8 (some 64) (by kernel_rfl) (by rfl)
                simp only [List.getElem_toArray, List.getElem_cons_zero, List.getElem_cons_succ, Act.put, List.setIfInBounds_toArray, List.set_cons_zero, List.set_cons_succ, e64] at hK ⊢
                go_simp
                exact hK.out _ _ hw trivial (rfl)
              refine Inv.Steps.on (by decide) 9 65 false (by rfl) (by rfl) (fun σ wx hw hd => ?_) ?_
              · obtain e65 : (σ 65) = .bool false := hd 9 (some 65) (by kernel_rfl) (by rfl)
                refine ⟨by simp [e65], fun K hK => ?_⟩
                simp only [List.getElem_toArray, List.getElem_cons_zero, List.getElem_cons_succ, Act.put, List.setIfInBounds_toArray, List.set_cons_zero, List.set_cons_succ, e65] at hK ⊢
                go_simp
                exact hK.out _ _ hw trivial (rfl)
              refine Inv.Steps.on (by decide) 9 65 false (by rfl) (by rfl) (fun σ wx hw hd => ?_) ?_
              · obtain e65 : (σ 65) = .bool false := hd 9 (some 65) (by kernel_rfl) (by rfl)
                obtain e66 : (σ 66) = .int .i64 0 := hd 10 (some 66) (by kernel_rfl) (by rfl)
                refine ⟨by simp [e65], fun K hK => ?_⟩
                simp only [List.getElem_toArray, List.getElem_cons_zero, List.getElem_cons_succ, Act.put, List.setIfInBounds_toArray, List.set_cons_zero, List.set_cons_succ, e65, e66] at hK ⊢
                go_simp
                exact hK.out _ _ hw trivial (rfl)
              refine Inv.Steps.on (by decide) 9 65 false (by rfl) (by rfl) (fun σ wx hw hd => ?_) ?_
              · obtain e65 : (σ 65) = .bool false := hd 9 (some 65) (by kernel_rfl) (by rfl)
                obtain e67 : (σ 67) = .bool false := hd 11 (some 67) (by kernel_rfl) (by rfl)
                refine ⟨by simp [e65], fun K hK => ?_⟩
                simp only [List.getElem_toArray, List.getElem_cons_zero, List.getElem_cons_succ, Act.put, List.setIfInBounds_toArray, List.set_cons_zero, List.set_cons_succ, e65, e67] at hK ⊢
                go_simp
                exact hK.out _ _ hw trivial (rfl)
              refine Inv.Steps.off (by decide) 12 68 true (.bool false) (by rfl) (by rfl) (by first | exact .inl rfl | exact .inr rfl) (fun σ wx hw hd => ?_) ?_
              · obtain e68 : (σ 68) = .bool false := hd 12 (some 68) (by kernel_rfl) (by rfl)
                exact ⟨by simp [e68], trivial, trivial⟩
              refine Inv.Steps.off (by decide) 12 68 true (.bool false) (by rfl) (by rfl) (by first | exact .inl rfl | exact .inr rfl) (fun σ wx hw hd => ?_) ?_
              · obtain e68 : (σ 68) = .bool false := hd 12 (some 68) (by kernel_rfl) (by rfl)
                exact ⟨by simp [e68], trivial, trivial⟩
              refine Inv.Steps.off (by decide) 12 68 true (.bool false) (by rfl) (by rfl) (by first | exact .inl rfl | exact .inr rfl) (fun σ wx hw hd => ?_) ?_
              · obtain e68 : (σ 68) = .bool false := hd 12 (some 68) (by kernel_rfl) (by rfl)
                exact ⟨by simp [e68], trivial, trivial⟩
              refine Inv.Steps.off (by decide) 12 68 true (.bool false) (by rfl) (by rfl) (by first | exact .inl rfl | exact .inr rfl) (fun σ wx hw hd => ?_) ?_
              · obtain e68 : (σ 68) = .bool false := hd 12 (some 68) (by kernel_rfl) (by rfl)
                exact ⟨by simp [e68], trivial, trivial⟩
              refine Inv.Steps.off (by decide) 12 68 true (.bool false) (by rfl) (by rfl) (by first | exact .inl rfl | exact .inr rfl) (fun σ wx hw hd => ?_) ?_
              · obtain e68 : (σ 68) = .bool false := hd 12 (some 68) (by kernel_rfl) (by rfl)
                exact ⟨by simp [e68], trivial, trivial⟩
              refine Inv.Steps.off (by decide) 12 68 true (.bool false) (by rfl) (by rfl) (by first | exact .inl rfl | exact .inr rfl) (fun σ wx hw hd => ?_) ?_
              · obtain e68 : (σ 68) = .bool false := hd 12 (some 68) (by kernel_rfl) (by rfl)
                exact ⟨by simp [e68], trivial, trivial⟩
              refine Inv.Steps.off (by decide) 12 68 true (.bool false) (by rfl) (by rfl) (by first | exact .inl rfl | exact .inr rfl) (fun σ wx hw hd => ?_) ?_
              · obtain e68 : (σ 68) = .bool false := hd 12 (some 68) (by kernel_rfl) (by rfl)
                exact ⟨by simp [e68], trivial, trivial⟩
              refine Inv.Steps.off (by decide) 12 68 true (.bool false) (by rfl) (by rfl) (by first | exact .inl rfl | exact .inr rfl) (fun σ wx hw hd => ?_) ?_
              · obtain e68 : (σ 68) = .bool false := hd 12 (some 68) (by kernel_rfl) (by rfl)
                exact ⟨by simp [e68], trivial, trivial⟩
              refine Inv.Steps.off (by decide) 12 68 true (.bool false) (by rfl) (by rfl) (by first | exact .inl rfl | exact .inr rfl) (fun σ wx hw hd => ?_) ?_
              · obtain e68 : (σ 68) = .bool false := hd 12 (some 68) (by kernel_rfl) (by rfl)
                exact ⟨by simp [e68], trivial, trivial⟩
              refine Inv.Steps.on (by decide) 9 65 false (by rfl) (by rfl) (fun σ wx hw hd => ?_) ?_
              · obtain e68 : (σ 68) = .bool false := hd 12 (some 68) (by kernel_rfl) (by rfl)
                obtain e65 : (σ 65) = .bool false := hd 9 (some 65) (by kernel_rfl) (by rfl)
                refine ⟨by simp [e65], fun K hK => ?_⟩
                simp only [List.getElem_toArray, List.getElem_cons_zero, List.getElem_cons_succ, Act.put, List.setIfInBounds_toArray, List.set_cons_zero, List.set_cons_succ, e68, e65] at hK ⊢
                go_simp
                exact hK.out _ _ hw trivial (rfl)
              refine Inv.Steps.go (by decide) (by rfl) (fun σ wx hw hd K hK => ?_) ?_
              · obtain e65 : (σ 65) = .bool false := hd 9 (some 65) (by kernel_rfl) (by rfl)
                obtain e78 : (σ 78) = .bool false := hd 22 (some 78) (by kernel_rfl) (by rfl)
                simp only [List.getElem_toArray, List.getElem_cons_zero, List.getElem_cons_succ, Act.put, List.setIfInBounds_toArray, List.set_cons_zero, List.set_cons_succ, e65, e78] at hK ⊢
                go_simp
                exact hK.out _ _ hw trivial (rfl)
              exact Inv.Steps.nil
            · intro σ wx hw hd
              obtain e79 : (σ 79) = .bool false := hd 23 (some 79) (by rfl) (by rfl)
              refine Inv.done (by kernel_rfl) (NoPanic.normal ?_)
              go_wp2_with fail
              go_meet
              first | exact ⟨rfl, Lib.hid hw⟩ | exact ⟨e79, Lib.hid hw⟩
          · have hu : u < n := by omega
            have hcu : ((u + 1 : Nat) : Int) = (u : Int) + 1 := by omega
            have hsb : IntKind.i64.wrap ((u : Int) + 1 - 1) = (u : Int) := by rw [IntWalk.i64_in _ (by omega)]; omega
            rw [hcu] at *
            have hu' : (u : Int) < n := by omega
            have hsb2 : IntKind.i64.wrap (u : Int) = (u : Int) := IntWalk.i64_in _ (by omega)
            have hl4 : decide ((n : Int) ≤ u) = false := decide_eq_false (by omega)
            have hl5 : decide ((0 : Int) ≤ u) = true := decide_eq_true (by omega)
            have hl6 : decide ((0 : Int) < (u : Int) + 1) = true := decide_eq_true (by omega)
            refine wp_region_noPanic ?_
            refine wp_region_any (by kernel_rfl) ?_
            refine Inv.wpAny_inv (fun k => false) [56, 57, 58, 59, 60, 61, 62, 63, 64, 65, 66, 67, 68, 69, 70, 71, 72, 73, 74, 75, 76, 77, 78, 79] (fun w' => Below wD.heap.size wD w') (fun _ _ _ => True) (fun k => ([fun v_ w_ => v_ = .int .i64 ((u : Nat) + 1), fun v_ w_ => v_ = .bool false, fun v_ w_ => v_ = .bool false, fun v_ w_ => v_ = .int .i64 ((u : Nat) + 1), fun v_ w_ => v_ = .pointer (some ⟨v1.heap.size, 0, none⟩), fun v_ w_ => v_ = .slice (some ⟨gb, 0, none⟩) n c, fun v_ w_ => v_ = .int .i64 (n : Nat), fun v_ w_ => v_ = .bool false, fun v_ w_ => v_ = .bool false, fun v_ w_ => v_ = .bool false, fun v_ w_ => v_ = .int .i64 ((u : Nat) + 1), fun v_ w_ => v_ = .bool true, fun v_ w_ => v_ = .bool true, fun v_ w_ => v_ = .pointer (some ⟨v1.heap.size, 0, none⟩), fun v_ w_ => v_ = .slice (some ⟨gb, 0, none⟩) n c, fun v_ w_ => v_ = .int .i64 ((u : Nat) + 1), fun v_ w_ => v_ = .int .i64 (u : Nat), fun v_ w_ => v_ = .pointer (some ⟨gb, u * 4, none⟩), fun v_ w_ => v_ = .agg #[.int .i64 (M u), .int .i64 (P u), .int .i64 (F u), .int .i64 (E u)], fun v_ w_ => v_ = .agg #[.string s0, .string s1, .string s2, .string s3, .int .i64 n1, .int .i64 n2, .int .i64 n3, .int .i64 n4, .int .i64 n5, .slice pa pn pc, .int .i64 X, .int .i64 Y, .int .i64 Z, .int .i64 T, .int .i64 Mi, .int .i64 Lo, .int .i64 A1, .int .i64 A2, .int .i64 A3, .int .i64 A4, .int .i64 A5, .int .i64 A6, .int .i64 L, .int .i64 H, .int .i64 C], fun v_ w_ => v_ = .bool true, fun v_ w_ => v_ = .bool false, fun v_ w_ => v_ = .bool false, fun v_ w_ => v_ = .bool false] : List (Value → World → Prop)).getD k (fun _ _ => True)) _ (fun σ => by simp only [Inv.putAll, List.foldl_cons, List.foldl_nil, Act.put, List.setIfInBounds_toArray, List.set_cons_zero, List.set_cons_succ]; rfl) (by kernel_rfl) (by kernel_rfl) ?_ (BC.out.drew) ?_ ?_ 0 #[true, true, true, true, true, true, true, true, true, true, true, true, true, true, true, true, true, true, true, true, true, true, true, true] (by kernel_rfl) (by kernel_rfl) ?_
            · intro j k v w1 w2 hjk hv hr
              rcases k with _ | k
              · exact hv
              rcases k with _ | k
              · exact hv
              rcases k with _ | k
              · exact hv
              rcases k with _ | k
              · exact hv
              rcases k with _ | k
              · exact hv
              rcases k with _ | k
              · exact hv
              rcases k with _ | k
              · exact hv
              rcases k with _ | k
              · exact hv
              rcases k with _ | k
              · exact hv
              rcases k with _ | k
              · exact hv
              rcases k with _ | k
              · exact hv
              rcases k with _ | k
              · exact hv
              rcases k with _ | k
              · exact hv
              rcases k with _ | k
              · exact hv
              rcases k with _ | k
              · exact hv
              rcases k with _ | k
              · exact hv
              rcases k with _ | k
              · exact hv
              rcases k with _ | k
              · exact hv
              rcases k with _ | k
              · exact hv
              rcases k with _ | k
              · exact hv
              rcases k with _ | k
              · exact hv
              rcases k with _ | k
              · exact hv
              rcases k with _ | k
              · exact hv
              rcases k with _ | k
              · exact hv
              · exact hv
            · intro k t hl hd
              rcases k with _ | k
              · exact absurd hl (by decide +kernel)
              rcases k with _ | k
              · exact absurd hl (by decide +kernel)
              rcases k with _ | k
              · exact absurd hl (by decide +kernel)
              rcases k with _ | k
              · exact absurd hl (by decide +kernel)
              rcases k with _ | k
              · exact absurd hl (by decide +kernel)
              rcases k with _ | k
              · exact absurd hl (by decide +kernel)
              rcases k with _ | k
              · exact absurd hl (by decide +kernel)
              rcases k with _ | k
              · exact absurd hl (by decide +kernel)
              rcases k with _ | k
              · exact absurd hl (by decide +kernel)
              rcases k with _ | k
              · exact absurd hl (by decide +kernel)
              rcases k with _ | k
              · exact absurd hl (by decide +kernel)
              rcases k with _ | k
              · exact absurd hl (by decide +kernel)
              rcases k with _ | k
              · exact absurd hl (by decide +kernel)
              rcases k with _ | k
              · exact absurd hl (by decide +kernel)
              rcases k with _ | k
              · exact absurd hl (by decide +kernel)
              rcases k with _ | k
              · exact absurd hl (by decide +kernel)
              rcases k with _ | k
              · exact absurd hl (by decide +kernel)
              rcases k with _ | k
              · exact absurd hl (by decide +kernel)
              rcases k with _ | k
              · exact absurd hl (by decide +kernel)
              rcases k with _ | k
              · exact absurd hl (by decide +kernel)
              rcases k with _ | k
              · exact absurd hl (by decide +kernel)
              rcases k with _ | k
              · exact absurd hl (by decide +kernel)
              rcases k with _ | k
              · exact absurd hl (by decide +kernel)
              rcases k with _ | k
              · exact absurd hl (by decide +kernel)
              · simp at hd
            · show Inv.Steps _ _ _ _ _ _ _ _ [0, 1, 2, 3, 4, 5, 6, 7, 8, 9, 10, 11, 12, 13, 14, 15, 16, 17, 18, 19, 20, 21, 22, 23]
              refine Inv.Steps.go (by decide) (by rfl) (fun σ wx hw hd K hK => ?_) ?_
              · simp only [List.getElem_toArray, List.getElem_cons_zero, List.getElem_cons_succ, Act.put, List.setIfInBounds_toArray, List.set_cons_zero, List.set_cons_succ] at hK ⊢
                go_simp
                exact hK.out _ _ hw trivial (rfl)
              refine Inv.Steps.go (by decide) (by rfl) (fun σ wx hw hd K hK => ?_) ?_
              · obtain e56 : (σ 56) = .int .i64 ((u : Nat) + 1) := hd 0 (some 56) (by kernel_rfl) (by rfl)
                simp only [List.getElem_toArray, List.getElem_cons_zero, List.getElem_cons_succ, Act.put, List.setIfInBounds_toArray, List.set_cons_zero, List.set_cons_succ, e56] at hK ⊢
                go_simp
                exact hK.out _ _ hw trivial (rfl)
              refine Inv.Steps.go (by decide) (by rfl) (fun σ wx hw hd K hK => ?_) ?_
              · obtain e57 : (σ 57) = .bool false := hd 1 (some 57) (by kernel_rfl) (by rfl)
                simp only [List.getElem_toArray, List.getElem_cons_zero, List.getElem_cons_succ, Act.put, List.setIfInBounds_toArray, List.set_cons_zero, List.set_cons_succ, e57] at hK ⊢
                go_simp
                exact hK.out _ _ hw trivial (rfl)
              refine Inv.Steps.on (by decide) 2 58 false (by rfl) (by rfl) (fun σ wx hw hd => ?_) ?_
              · obtain e58 : (σ 58) = .bool false := hd 2 (some 58) (by kernel_rfl) (by rfl)
                refine ⟨by simp [e58], fun K hK => ?_⟩
                simp only [List.getElem_toArray, List.getElem_cons_zero, List.getElem_cons_succ, Act.put, List.setIfInBounds_toArray, List.set_cons_zero, List.set_cons_succ, e58] at hK ⊢
                go_simp
                exact hK.out _ _ hw trivial (rfl)
              refine Inv.Steps.on (by decide) 2 58 false (by rfl) (by rfl) (fun σ wx hw hd => ?_) ?_
              · obtain e58 : (σ 58) = .bool false := hd 2 (some 58) (by kernel_rfl) (by rfl)
                refine ⟨by simp [e58], fun K hK => ?_⟩
                simp only [List.getElem_toArray, List.getElem_cons_zero, List.getElem_cons_succ, Act.put, List.setIfInBounds_toArray, List.set_cons_zero, List.set_cons_succ, e58] at hK ⊢
                go_simp
                exact hK.out _ _ hw trivial (rfl)
              refine Inv.Steps.on (by decide) 2 58 false (by rfl) (by rfl) (fun σ wx hw hd => ?_) ?_
              · obtain e58 : (σ 58) = .bool false := hd 2 (some 58) (by kernel_rfl) (by rfl)
                obtain e60 : (σ 60) = .pointer (some ⟨v1.heap.size, 0, none⟩) := hd 4 (some 60) (by kernel_rfl) (by rfl)
                refine ⟨by simp [e58], fun K hK => ?_⟩
                simp only [List.getElem_toArray, List.getElem_cons_zero, List.getElem_cons_succ, Act.put, List.setIfInBounds_toArray, List.set_cons_zero, List.set_cons_succ, e58, e60] at hK ⊢
                have hc : wx.cell? ⟨v1.heap.size, 0, none⟩ = some (.slice (some ⟨gb, 0, none⟩) n c) := cell_of_row _ _ 0 _ _ _ (U0.out _ hw)
                go_simp
                exact hK.out _ _ hw trivial (rfl)
              refine Inv.Steps.on (by decide) 2 58 false (by rfl) (by rfl) (fun σ wx hw hd => ?_) ?_
              · obtain e58 : (σ 58) = .bool false := hd 2 (some 58) (by kernel_rfl) (by rfl)
                obtain e61 : (σ 61) = .slice (some ⟨gb, 0, none⟩) n c := hd 5 (some 61) (by kernel_rfl) (by rfl)
                refine ⟨by simp [e58], fun K hK => ?_⟩
                simp only [List.getElem_toArray, List.getElem_cons_zero, List.getElem_cons_succ, Act.put, List.setIfInBounds_toArray, List.set_cons_zero, List.set_cons_succ, e58, e61] at hK ⊢
                go_simp
                exact hK.out _ _ hw trivial (rfl)
              refine Inv.Steps.on (by decide) 2 58 false (by rfl) (by rfl) (fun σ wx hw hd => ?_) ?_
              · obtain e58 : (σ 58) = .bool false := hd 2 (some 58) (by kernel_rfl) (by rfl)
                obtain e59 : (σ 59) = .int .i64 ((u : Nat) + 1) := hd 3 (some 59) (by kernel_rfl) (by rfl)
                obtain e62 : (σ 62) = .int .i64 (n : Nat) := hd 6 (some 62) (by kernel_rfl) (by rfl)
                refine ⟨by simp [e58], fun K hK => ?_⟩
                simp only [List.getElem_toArray, List.getElem_cons_zero, List.getElem_cons_succ, Act.put, List.setIfInBounds_toArray, List.set_cons_zero, List.set_cons_succ, e58, e59, e62] at hK ⊢
                go_simp
                exact hK.out _ _ hw trivial (by show (_ : Value) = _; first | rfl | exact congrArg Value.bool (decide_eq_false (by omega)))
              refine Inv.Steps.go (by decide) (by rfl) (fun σ wx hw hd K hK => ?_) ?_
              · obtain e58 : (σ 58) = .bool false := hd 2 (some 58) (by kernel_rfl) (by rfl)
                obtain e63 : (σ 63) = .bool false := hd 7 (some 63) (by kernel_rfl) (by rfl)
                simp only [List.getElem_toArray, List.getElem_cons_zero, List.getElem_cons_succ, Act.put, List.setIfInBounds_toArray, List.set_cons_zero, List.set_cons_succ, e58, e63] at hK ⊢
                go_simp
                exact hK.out _ _ hw trivial (rfl)
              refine Inv.Steps.go (by decide) (by rfl) (fun σ wx hw hd K hK => ?_) ?_
              · obtain e64 : (σ 64) = .bool false := hd 8 (some 64) (by kernel_rfl) (by rfl)
                simp only [List.getElem_toArray, List.getElem_cons_zero, List.getElem_cons_succ, Act.put, List.setIfInBounds_toArray, List.set_cons_zero, List.set_cons_succ, e64] at hK ⊢
                go_simp
                exact hK.out _ _ hw trivial (rfl)
              refine Inv.Steps.on (by decide) 9 65 false (by rfl) (by rfl) (fun σ wx hw hd => ?_) ?_
              · obtain e65 : (σ 65) = .bool false := hd 9 (some 65) (by kernel_rfl) (by rfl)
                refine ⟨by simp [e65], fun K hK => ?_⟩
                simp only [List.getElem_toArray, List.getElem_cons_zero, List.getElem_cons_succ, Act.put, List.setIfInBounds_toArray, List.set_cons_zero, List.set_cons_succ, e65] at hK ⊢
                go_simp
                exact hK.out _ _ hw trivial (rfl)
              refine Inv.Steps.on (by decide) 9 65 false (by rfl) (by rfl) (fun σ wx hw hd => ?_) ?_
              · obtain e65 : (σ 65) = .bool false := hd 9 (some 65) (by kernel_rfl) (by rfl)
                obtain e66 : (σ 66) = .int .i64 ((u : Nat) + 1) := hd 10 (some 66) (by kernel_rfl) (by rfl)
                refine ⟨by simp [e65], fun K hK => ?_⟩
                simp only [List.getElem_toArray, List.getElem_cons_zero, List.getElem_cons_succ, Act.put, List.setIfInBounds_toArray, List.set_cons_zero, List.set_cons_succ, e65, e66] at hK ⊢
                go_simp
                exact hK.out _ _ hw trivial (rfl)
              refine Inv.Steps.on (by decide) 9 65 false (by rfl) (by rfl) (fun σ wx hw hd => ?_) ?_
              · obtain e65 : (σ 65) = .bool false := hd 9 (some 65) (by kernel_rfl) (by rfl)
                obtain e67 : (σ 67) = .bool true := hd 11 (some 67) (by kernel_rfl) (by rfl)
                refine ⟨by simp [e65], fun K hK => ?_⟩
                simp only [List.getElem_toArray, List.getElem_cons_zero, List.getElem_cons_succ, Act.put, List.setIfInBounds_toArray, List.set_cons_zero, List.set_cons_succ, e65, e67] at hK ⊢
                go_simp
                exact hK.out _ _ hw trivial (rfl)
              refine Inv.Steps.on (by decide) 12 68 true (by rfl) (by rfl) (fun σ wx hw hd => ?_) ?_
              · obtain e68 : (σ 68) = .bool true := hd 12 (some 68) (by kernel_rfl) (by rfl)
                refine ⟨by simp [e68], fun K hK => ?_⟩
                simp only [List.getElem_toArray, List.getElem_cons_zero, List.getElem_cons_succ, Act.put, List.setIfInBounds_toArray, List.set_cons_zero, List.set_cons_succ, e68] at hK ⊢
                go_simp
                exact hK.out _ _ hw trivial (rfl)
              refine Inv.Steps.on (by decide) 12 68 true (by rfl) (by rfl) (fun σ wx hw hd => ?_) ?_
              · obtain e68 : (σ 68) = .bool true := hd 12 (some 68) (by kernel_rfl) (by rfl)
                obtain e69 : (σ 69) = .pointer (some ⟨v1.heap.size, 0, none⟩) := hd 13 (some 69) (by kernel_rfl) (by rfl)
                refine ⟨by simp [e68], fun K hK => ?_⟩
                simp only [List.getElem_toArray, List.getElem_cons_zero, List.getElem_cons_succ, Act.put, List.setIfInBounds_toArray, List.set_cons_zero, List.set_cons_succ, e68, e69] at hK ⊢
                have hc : wx.cell? ⟨v1.heap.size, 0, none⟩ = some (.slice (some ⟨gb, 0, none⟩) n c) := cell_of_row _ _ 0 _ _ _ (U0.out _ hw)
                go_simp
                exact hK.out _ _ hw trivial (rfl)
              refine Inv.Steps.on (by decide) 12 68 true (by rfl) (by rfl) (fun σ wx hw hd => ?_) ?_
              · obtain e68 : (σ 68) = .bool true := hd 12 (some 68) (by kernel_rfl) (by rfl)
                refine ⟨by simp [e68], fun K hK => ?_⟩
                simp only [List.getElem_toArray, List.getElem_cons_zero, List.getElem_cons_succ, Act.put, List.setIfInBounds_toArray, List.set_cons_zero, List.set_cons_succ, e68] at hK ⊢
                go_simp
                exact hK.out _ _ hw trivial (rfl)
              refine Inv.Steps.on (by decide) 12 68 true (by rfl) (by rfl) (fun σ wx hw hd => ?_) ?_
              · obtain e68 : (σ 68) = .bool true := hd 12 (some 68) (by kernel_rfl) (by rfl)
                obtain e71 : (σ 71) = .int .i64 ((u : Nat) + 1) := hd 15 (some 71) (by kernel_rfl) (by rfl)
                refine ⟨by simp [e68], fun K hK => ?_⟩
                simp only [List.getElem_toArray, List.getElem_cons_zero, List.getElem_cons_succ, Act.put, List.setIfInBounds_toArray, List.set_cons_zero, List.set_cons_succ, e68, e71] at hK ⊢
                go_simp
                try rw [hsb]
                try rw [hsb2]
                exact hK.out _ _ hw trivial (rfl)
              refine Inv.Steps.on (by decide) 12 68 true (by rfl) (by rfl) (fun σ wx hw hd => ?_) ?_
              · obtain e68 : (σ 68) = .bool true := hd 12 (some 68) (by kernel_rfl) (by rfl)
                obtain e70 : (σ 70) = .slice (some ⟨gb, 0, none⟩) n c := hd 14 (some 70) (by kernel_rfl) (by rfl)
                obtain e72 : (σ 72) = .int .i64 (u : Nat) := hd 16 (some 72) (by kernel_rfl) (by rfl)
                refine ⟨by simp [e68], fun K hK => ?_⟩
                simp only [List.getElem_toArray, List.getElem_cons_zero, List.getElem_cons_succ, Act.put, List.setIfInBounds_toArray, List.set_cons_zero, List.set_cons_succ, e68, e70, e72] at hK ⊢
                go_simp
                exact hK.out _ _ hw trivial (rfl)
              refine Inv.Steps.on (by decide) 12 68 true (by rfl) (by rfl) (fun σ wx hw hd => ?_) ?_
              · obtain e68 : (σ 68) = .bool true := hd 12 (some 68) (by kernel_rfl) (by rfl)
                obtain e73 : (σ 73) = .pointer (some ⟨gb, u * 4, none⟩) := hd 17 (some 73) (by kernel_rfl) (by rfl)
                refine ⟨by simp [e68], fun K hK => ?_⟩
                simp only [List.getElem_toArray, List.getElem_cons_zero, List.getElem_cons_succ, Act.put, List.setIfInBounds_toArray, List.set_cons_zero, List.set_cons_succ, e73] at hK ⊢
                have hr4 := rw_range (RD.out.below hw) u hu
                refine wp_load_mid 48 (.tmp 73) rfl gb (u * 4) rfl [.int .i64 (M u), .int .i64 (P u), .int .i64 (F u), .int .i64 (E u)] _ hr4 rfl rfl rfl ?_
                simp only [Act.put, List.setIfInBounds_toArray, List.set_cons_zero, List.set_cons_succ, List.toArray]
                exact hK.out _ _ hw trivial (rfl)
              refine Inv.Steps.on (by decide) 12 68 true (by rfl) (by rfl) (fun σ wx hw hd => ?_) ?_
              · obtain e68 : (σ 68) = .bool true := hd 12 (some 68) (by kernel_rfl) (by rfl)
                refine ⟨by simp [e68], fun K hK => ?_⟩
                simp only [List.getElem_toArray, List.getElem_cons_zero, List.getElem_cons_succ, Act.put, List.setIfInBounds_toArray, List.set_cons_zero, List.set_cons_succ] at hK ⊢
                have hQ := U1.out _ hw
                refine wp_load_row 45 (.tmp 5) rfl (v1.heap.size + 1) rfl 45 #[.string s0, .string s1, .string s2, .string s3, .int .i64 n1, .int .i64 n2, .int .i64 n3, .int .i64 n4, .int .i64 n5, .slice pa pn pc, .int .i64 X, .int .i64 Y, .int .i64 Z, .int .i64 T, .int .i64 Mi, .int .i64 Lo, .int .i64 A1, .int .i64 A2, .int .i64 A3, .int .i64 A4, .int .i64 A5, .int .i64 A6, .int .i64 L, .int .i64 H, .int .i64 C] (0, 0) _ hQ rfl rfl rfl ?_
                simp only [Act.put, List.setIfInBounds_toArray, List.set_cons_zero, List.set_cons_succ]
                exact hK.out _ _ hw trivial (rfl)
              refine Inv.Steps.on (by decide) 12 68 true (by rfl) (by rfl) (fun σ wx hw hd => ?_) ?_
              · obtain e68 : (σ 68) = .bool true := hd 12 (some 68) (by kernel_rfl) (by rfl)
                obtain e74 : (σ 74) = .agg #[.int .i64 (M u), .int .i64 (P u), .int .i64 (F u), .int .i64 (E u)] := hd 18 (some 74) (by kernel_rfl) (by rfl)
                obtain e75 : (σ 75) = .agg #[.string s0, .string s1, .string s2, .string s3, .int .i64 n1, .int .i64 n2, .int .i64 n3, .int .i64 n4, .int .i64 n5, .slice pa pn pc, .int .i64 X, .int .i64 Y, .int .i64 Z, .int .i64 T, .int .i64 Mi, .int .i64 Lo, .int .i64 A1, .int .i64 A2, .int .i64 A3, .int .i64 A4, .int .i64 A5, .int .i64 A6, .int .i64 L, .int .i64 H, .int .i64 C] := hd 19 (some 75) (by kernel_rfl) (by rfl)
                refine ⟨by simp [e68], fun K hK => ?_⟩
                simp only [List.getElem_toArray, List.getElem_cons_zero, List.getElem_cons_succ, Act.put, List.setIfInBounds_toArray, List.set_cons_zero, List.set_cons_succ, e68, e74, e75] at hK ⊢
                go_simp
                go_at_call 10
                refine (UM.out (M u) (P u) (F u) (E u) _ hw).mono ?_
                rintro e w1 ⟨rfl, hb⟩
                rw [AT.out u hu rfl]
                dsimp only
                exact hK.out _ _ (hw.trans (hb.mono hw.size)) trivial (rfl)
              refine Inv.Steps.on (by decide) 12 68 true (by rfl) (by rfl) (fun σ wx hw hd => ?_) ?_
              · obtain e68 : (σ 68) = .bool true := hd 12 (some 68) (by kernel_rfl) (by rfl)
                obtain e76 : (σ 76) = .bool true := hd 20 (some 76) (by kernel_rfl) (by rfl)
                refine ⟨by simp [e68], fun K hK => ?_⟩
                simp only [List.getElem_toArray, List.getElem_cons_zero, List.getElem_cons_succ, Act.put, List.setIfInBounds_toArray, List.set_cons_zero, List.set_cons_succ, e68, e76] at hK ⊢
                go_simp
                exact hK.out _ _ hw trivial (rfl)
              refine Inv.Steps.on (by decide) 9 65 false (by rfl) (by rfl) (fun σ wx hw hd => ?_) ?_
              · obtain e68 : (σ 68) = .bool true := hd 12 (some 68) (by kernel_rfl) (by rfl)
                obtain e77 : (σ 77) = .bool false := hd 21 (some 77) (by kernel_rfl) (by rfl)
                obtain e65 : (σ 65) = .bool false := hd 9 (some 65) (by kernel_rfl) (by rfl)
                refine ⟨by simp [e65], fun K hK => ?_⟩
                simp only [List.getElem_toArray, List.getElem_cons_zero, List.getElem_cons_succ, Act.put, List.setIfInBounds_toArray, List.set_cons_zero, List.set_cons_succ, e68, e77, e65] at hK ⊢
                go_simp
                exact hK.out _ _ hw trivial (rfl)
              refine Inv.Steps.go (by decide) (by rfl) (fun σ wx hw hd K hK => ?_) ?_
              · obtain e65 : (σ 65) = .bool false := hd 9 (some 65) (by kernel_rfl) (by rfl)
                obtain e78 : (σ 78) = .bool false := hd 22 (some 78) (by kernel_rfl) (by rfl)
                simp only [List.getElem_toArray, List.getElem_cons_zero, List.getElem_cons_succ, Act.put, List.setIfInBounds_toArray, List.set_cons_zero, List.set_cons_succ, e65, e78] at hK ⊢
                go_simp
                exact hK.out _ _ hw trivial (rfl)
              exact Inv.Steps.nil
            · intro σ wx hw hd
              obtain e79 : (σ 79) = .bool false := hd 23 (some 79) (by rfl) (by rfl)
              refine Inv.done (by kernel_rfl) (NoPanic.normal ?_)
              go_wp2_with fail
              go_meet
              first | exact ⟨rfl, Lib.hid hw⟩ | exact ⟨e79, Lib.hid hw⟩
        case rest =>
          obtain ⟨rfl, BC⟩ := hcut
          go_wp2_with fail
          go_loopw [9] (fun s9 wr => ∃ i : Nat, s9 = .int .i64 (i : Int) ∧ la ≤ i ∧ i ≤ n ∧ Hid (Below wD.heap.size wD wr)) (fun s9 _ => (n - intOf s9).toNat)
          case atStart => exact ⟨la, rfl, Nat.le_refl _, hle, BC⟩
          case round =>
            clear BC
            obtain ⟨i, rfl, hi1, hi2, BC⟩ := hrel
            have c0 : wr.cell? ⟨v1.heap.size, 0, none⟩ = some (.slice (some ⟨gb, 0, none⟩) n c) := cell_of_row _ _ 0 _ _ _ (U0.out _ BC.out)
            by_cases hlt : i < n
            · have hlt' : (i : Int) < n := by omega
              go_wp2_with fail
              refine wp_region_noPanic ?_
              refine wp_region_any (by kernel_rfl) ?_
              refine Inv.wpAny_inv (fun k => false) [88, 89, 90, 91, 92, 93, 94] (fun w' => Below wD.heap.size wD w') (fun _ _ _ => True) (fun k => ([fun v_ w_ => v_ = .pointer (some ⟨v1.heap.size, 0, none⟩), fun v_ w_ => v_ = .slice (some ⟨gb, 0, none⟩) n c, fun v_ w_ => v_ = .int .i64 (i : Nat), fun v_ w_ => v_ = .pointer (some ⟨gb, i * 4, none⟩), fun v_ w_ => v_ = .agg #[.int .i64 (M i), .int .i64 (P i), .int .i64 (F i), .int .i64 (E i)], fun v_ w_ => v_ = .agg #[.string s0, .string s1, .string s2, .string s3, .int .i64 n1, .int .i64 n2, .int .i64 n3, .int .i64 n4, .int .i64 n5, .slice pa pn pc, .int .i64 X, .int .i64 Y, .int .i64 Z, .int .i64 T, .int .i64 Mi, .int .i64 Lo, .int .i64 A1, .int .i64 A2, .int .i64 A3, .int .i64 A4, .int .i64 A5, .int .i64 A6, .int .i64 L, .int .i64 H, .int .i64 C], fun v_ w_ => v_ = .bool false] : List (Value → World → Prop)).getD k (fun _ _ => True)) _ (fun σ => by simp only [Inv.putAll, List.foldl_cons, List.foldl_nil, Act.put, List.setIfInBounds_toArray, List.set_cons_zero, List.set_cons_succ]; rfl) (by kernel_rfl) (by kernel_rfl) ?_ (BC.out.drew) ?_ ?_ 0 #[true, true, true, true, true, true, true] (by kernel_rfl) (by kernel_rfl) ?_
              · intro j k v w1 w2 hjk hv hr
                rcases k with _ | k
                · exact hv
                rcases k with _ | k
                · exact hv
                rcases k with _ | k
                · exact hv
                rcases k with _ | k
                · exact hv
                rcases k with _ | k
                · exact hv
                rcases k with _ | k
                · exact hv
                rcases k with _ | k
                · exact hv
                · exact hv
              · intro k t hl hd
                rcases k with _ | k
                · exact absurd hl (by decide +kernel)
                rcases k with _ | k
                · exact absurd hl (by decide +kernel)
                rcases k with _ | k
                · exact absurd hl (by decide +kernel)
                rcases k with _ | k
                · exact absurd hl (by decide +kernel)
                rcases k with _ | k
                · exact absurd hl (by decide +kernel)
                rcases k with _ | k
                · exact absurd hl (by decide +kernel)
                rcases k with _ | k
                · exact absurd hl (by decide +kernel)
                · simp at hd
              · show Inv.Steps _ _ _ _ _ _ _ _ [0, 1, 2, 3, 4, 5, 6]
                refine Inv.Steps.go (by decide) (by rfl) (fun σ wx hw hd K hK => ?_) ?_
                · simp only [List.getElem_toArray, List.getElem_cons_zero, List.getElem_cons_succ, Act.put, List.setIfInBounds_toArray, List.set_cons_zero, List.set_cons_succ] at hK ⊢
                  go_simp
                  exact hK.out _ _ hw trivial (rfl)
                refine Inv.Steps.go (by decide) (by rfl) (fun σ wx hw hd K hK => ?_) ?_
                · obtain e88 : (σ 88) = .pointer (some ⟨v1.heap.size, 0, none⟩) := hd 0 (some 88) (by kernel_rfl) (by rfl)
                  simp only [List.getElem_toArray, List.getElem_cons_zero, List.getElem_cons_succ, Act.put, List.setIfInBounds_toArray, List.set_cons_zero, List.set_cons_succ, e88] at hK ⊢
                  have hc : wx.cell? ⟨v1.heap.size, 0, none⟩ = some (.slice (some ⟨gb, 0, none⟩) n c) := cell_of_row _ _ 0 _ _ _ (U0.out _ hw)
                  go_simp
                  exact hK.out _ _ hw trivial (rfl)
                refine Inv.Steps.go (by decide) (by rfl) (fun σ wx hw hd K hK => ?_) ?_
                · simp only [List.getElem_toArray, List.getElem_cons_zero, List.getElem_cons_succ, Act.put, List.setIfInBounds_toArray, List.set_cons_zero, List.set_cons_succ] at hK ⊢
                  go_simp
                  exact hK.out _ _ hw trivial (rfl)
                refine Inv.Steps.go (by decide) (by rfl) (fun σ wx hw hd K hK => ?_) ?_
                · obtain e89 : (σ 89) = .slice (some ⟨gb, 0, none⟩) n c := hd 1 (some 89) (by kernel_rfl) (by rfl)
                  obtain e90 : (σ 90) = .int .i64 (i : Nat) := hd 2 (some 90) (by kernel_rfl) (by rfl)
                  simp only [List.getElem_toArray, List.getElem_cons_zero, List.getElem_cons_succ, Act.put, List.setIfInBounds_toArray, List.set_cons_zero, List.set_cons_succ, e89, e90] at hK ⊢
                  go_simp
                  exact hK.out _ _ hw trivial (rfl)
                refine Inv.Steps.go (by decide) (by rfl) (fun σ wx hw hd K hK => ?_) ?_
                · obtain e91 : (σ 91) = .pointer (some ⟨gb, i * 4, none⟩) := hd 3 (some 91) (by kernel_rfl) (by rfl)
                  simp only [List.getElem_toArray, List.getElem_cons_zero, List.getElem_cons_succ, Act.put, List.setIfInBounds_toArray, List.set_cons_zero, List.set_cons_succ, e91] at hK ⊢
                  have hr4 := rw_range (RD.out.below hw) i hlt
                  refine wp_load_mid 48 (.tmp 91) rfl gb (i * 4) rfl [.int .i64 (M i), .int .i64 (P i), .int .i64 (F i), .int .i64 (E i)] _ hr4 rfl rfl rfl ?_
                  simp only [Act.put, List.setIfInBounds_toArray, List.set_cons_zero, List.set_cons_succ, List.toArray]
                  exact hK.out _ _ hw trivial (rfl)
                refine Inv.Steps.go (by decide) (by rfl) (fun σ wx hw hd K hK => ?_) ?_
                · simp only [List.getElem_toArray, List.getElem_cons_zero, List.getElem_cons_succ, Act.put, List.setIfInBounds_toArray, List.set_cons_zero, List.set_cons_succ] at hK ⊢
                  have hQ := U1.out _ hw
                  refine wp_load_row 45 (.tmp 5) rfl (v1.heap.size + 1) rfl 45 #[.string s0, .string s1, .string s2, .string s3, .int .i64 n1, .int .i64 n2, .int .i64 n3, .int .i64 n4, .int .i64 n5, .slice pa pn pc, .int .i64 X, .int .i64 Y, .int .i64 Z, .int .i64 T, .int .i64 Mi, .int .i64 Lo, .int .i64 A1, .int .i64 A2, .int .i64 A3, .int .i64 A4, .int .i64 A5, .int .i64 A6, .int .i64 L, .int .i64 H, .int .i64 C] (0, 0) _ hQ rfl rfl rfl ?_
                  simp only [Act.put, List.setIfInBounds_toArray, List.set_cons_zero, List.set_cons_succ]
                  exact hK.out _ _ hw trivial (rfl)
                refine Inv.Steps.go (by decide) (by rfl) (fun σ wx hw hd K hK => ?_) ?_
                · obtain e92 : (σ 92) = .agg #[.int .i64 (M i), .int .i64 (P i), .int .i64 (F i), .int .i64 (E i)] := hd 4 (some 92) (by kernel_rfl) (by rfl)
                  obtain e93 : (σ 93) = .agg #[.string s0, .string s1, .string s2, .string s3, .int .i64 n1, .int .i64 n2, .int .i64 n3, .int .i64 n4, .int .i64 n5, .slice pa pn pc, .int .i64 X, .int .i64 Y, .int .i64 Z, .int .i64 T, .int .i64 Mi, .int .i64 Lo, .int .i64 A1, .int .i64 A2, .int .i64 A3, .int .i64 A4, .int .i64 A5, .int .i64 A6, .int .i64 L, .int .i64 H, .int .i64 C] := hd 5 (some 93) (by kernel_rfl) (by rfl)
                  simp only [List.getElem_toArray, List.getElem_cons_zero, List.getElem_cons_succ, Act.put, List.setIfInBounds_toArray, List.set_cons_zero, List.set_cons_succ, e92, e93] at hK ⊢
                  go_simp
                  go_at_call 10
                  refine (UM.out (M i) (P i) (F i) (E i) _ hw).mono ?_
                  rintro e w1 ⟨rfl, hb⟩
                  rw [NT.out i hi1 hlt]
                  dsimp only
                  exact hK.out _ _ (hw.trans (hb.mono hw.size)) trivial (rfl)
                exact Inv.Steps.nil
              · intro σ wx hw hd
                obtain e94 : (σ 94) = .bool false := hd 6 (some 94) (by rfl) (by rfl)
                refine Inv.done (by kernel_rfl) (NoPanic.normal ?_)
                rw [e94]
                clear e94 hd
                replace hw := Lib.hid hw
                go_wp2_with fail
                go_roundw
                case rel => exact ⟨i + 1, by go_num, by omega, by omega, hw⟩
                case measure => simp [intOf]; omega
            · obtain rfl : i = n := by omega
              go_wp2_with (go_at_call 12; refine (awake_any _).mono ?_; rintro e w5 ⟨rfl, hb5⟩)
              go_ret
              exact ⟨rfl, BWd.out.trans ((BC.out.trans (hb5.mono BC.out.size)).mono (by have := BWd.out.size; omega))⟩
end Laws
end Go.Proofs.Yticjmblajloefaa
