/- The reference's Normal, near and Length at sets that are canonical. -/
import Derived.Test.YtfmhfhggogjbkaaSpnG
import Derived.Test.YtfmhfhggogjbkaaSpnF
import Derived.Test.YtfmhfhggogjbkaaSpnE
import Derived.Test.YtfmhfhggogjbkaaInv
import Derived.Laws.CopyOwn
import Derived.Laws.NewBlocks
import Derived.Deep.AppendLies
import Derived.Deep.DeepCutAuto
set_option linter.unusedVariables false
set_option linter.unusedSimpArgs false
namespace Go.Proofs.Ytfmhfhggogjbkaa
open Go.RowKit Dice
namespace Spn
open Sp (cells2 cells2_snoc cells2_get Spans own_kept own_below own_mono own_shape)
section
variable {P : Program}
/-- copy of nothing. -/
theorem run_copy_none (w : World) (dT sT ty elem : TypeId) (x y : Option Addr) (c m c2 : Nat) (k : Nat) (hu : P.underlying dT = some (.slice elem)) (hs : (P.info? elem).map (·.size) = some k) :
    (Builtin.copy_ #[dT, sT] ty #[.slice x 0 c, .slice y m c2]).run P w = .ok (.int .i64 0) w := by
  cases hq : P.info? elem with
  | none => simp [hq] at hs
  | some i => cases x <;> cases y <;> simp [Builtin.copy_, run_underlying hu, Builtin.lenOf, Builtin.firstCells, sizeOf, typeInfo, hq, storeCells, goInt, loadCells, loadCellsFrom]
theorem wp_copy_none {w : World} {o : Oper} {a : Act} {K : Act → World → Prop} {Q : Exit → Act → World → Prop} (d s : Operand) (dT sT : TypeId)
    (ho : o.op = .call { callee := .builtin .copy, args := #[d, s], argTypes := #[dT, sT] }) (elem : TypeId) (k : Nat) (hu : P.underlying dT = some (.slice elem)) (hsz : (P.info? elem).map (·.size) = some k)
    (x y : Option Addr) (c m c2 : Nat) (hd : a.eval d = .slice x 0 c) (hs : a.eval s = .slice y m c2) (h : K (a.put o.dst (.int .i64 0)) w) : o.wp P a w K Q := by
  have hr := run_copy_none (P := P) w dT sT o.type elem x y c m c2 k hu hsz
  unfold Oper.wp execOp
  simp only [ho, resolve, invoke, builtin, Sem.run_bind, Sem.run_pure, Result.andThen_ok, List.map_toArray, List.map_cons, List.map_nil, hd, hs, hr]
  exact h
end
theorem setCell_id {w : World} {g o : Nat} {v : Value} (h : w.cell? ⟨g, o, none⟩ = some v) : w.setCell ⟨g, o, none⟩ v = w := by
  unfold World.setCell
  have : w.heap.modify g (fun | .cells c elem frozen => .cells (if (none : Option Nat).isSome then c else c.setIfInBounds o v) elem frozen | o => o) = w.heap := by
    apply Array.ext_getElem?
    intro k
    rw [Array.getElem?_modify]
    split
    · rename_i e
      subst e
      unfold World.cell? at h
      cases hb : w.heap[g]? with
      | none => rfl
      | some ob =>
        rw [hb] at h
        cases ob with
        | cells c t fr =>
          simp at h
          simp only [Option.map_some, Option.isSome_none, Bool.false_eq_true, if_false, Option.some.injEq, Obj.cells.injEq, and_true]
          apply Array.ext_getElem?
          intro j
          rw [Array.getElem?_setIfInBounds]
          split
          · rename_i e
            subst e
            split
            · exact h.symm
            · rename_i hn; rw [Array.getElem?_eq_none (by omega)] at h; cases h
          · rfl
        | _ => rfl
    · rfl
  exact congrArg (fun hh => ({ w with heap := hh } : World)) this
theorem take_snoc_lp {L : LP} {k : Nat} {p : Int × Int} (h : L[k]? = some p) : L.take (k + 1) = L.take k ++ [p] := by rw [List.take_add_one, h]; rfl
theorem own_len {w : World} {B : Nat} {v : Value} {L : LP} (h : Spans w B v L) : ∃ a c, v = .slice a L.length c := by
  rcases h.2 with ⟨rfl, h0⟩ | ⟨g, c, _, rfl, _⟩
  · exact ⟨none, 0, by rw [h0]⟩
  · exact ⟨_, c, rfl⟩
theorem own_get {w : World} {B : Nat} {a : Option Addr} {n c : Nat} {L : LP} (h : Spans w B (.slice a n c) L) {k : Nat} {p : Int × Int} (hp : L[k]? = some p) : n = L.length ∧ n ≤ c ∧ ∃ g, a = some ⟨g, 0, none⟩ ∧ g < w.heap.size ∧ B ≤ g ∧ w.cell? ⟨g, k * 2, none⟩ = some (.int .i64 p.1) ∧ w.cell? ⟨g, k * 2 + 1, none⟩ = some (.int .i64 p.2) ∧ w.frozen? ⟨g, k * 2, none⟩ = false ∧ w.frozen? ⟨g, k * 2 + 1, none⟩ = false := by
  have hk := (List.getElem?_eq_some_iff.1 hp).1
  rcases id h.2 with ⟨e, h0⟩ | ⟨g, cap, cur, e, hB, hg, hc, _⟩
  · omega
  · cases e
    obtain ⟨a1, a2⟩ := cells2_get L k p hp
    have f : ∀ j, w.frozen? ⟨g, j, none⟩ = false := fun j => frozen_of_row w g j _ _ hg
    refine ⟨rfl, hc, g, rfl, (Array.getElem?_eq_some_iff.1 hg).1, hB, ?_, ?_, f _, f _⟩
    · rw [h.cellAt _ (by omega)]; exact a1
    · rw [h.cellAt _ (by omega)]; exact a2
set_option maxHeartbeats 4000000 in
set_option maxRecDepth 100000 in
theorem refnormal_canon {w : World} {v : Value} {L : LP} (h : Its w v L) (hC : Canon L) (h9 : L.length ≤ 200) :
    Calls Try.prog 23 #[v] w fun e w' => (∃ r, e = .returned r ∧ Spans w' w.heap.size r L) ∧ Below w.heap.size w w' := by
  obtain ⟨i0, hi, hz0, hz1, hz2⟩ := info_get infoS
  have hsz : (Try.prog.info? 49).map (·.size) = some 2 := by rw [hi]; simp [hz1]
  obtain ⟨ad, c, rfl, hc, hf⟩ := its_form h
  obtain ⟨n, hn⟩ : ∃ n, n = L.length := ⟨_, rfl⟩
  rw [← hn] at hc h9 ⊢
  replace hn := Lib.hid hn
  have F := Lib.hid hf
  have CC := Lib.hid hC
  have W0 := Lib.hid (Below.refl w.heap.size w)
  have O0 : Hid (Spans w w.heap.size (.slice none 0 0) (L.take 0)) := Lib.hid (World.ownsRow_nil _ _ _ _)
  clear h hf hC
  go_enter Try.func23, Try.ntmps23
  go_wp2_with fail
  go_loopw [3, 4] (fun s i wr => ∃ kx : Nat, kx ≤ n ∧ i = .int .i64 kx ∧ Hid (Spans wr w.heap.size s (L.take kx)) ∧ Hid (Below w.heap.size w wr)) (fun _ i _ => n - (intOf i).toNat)
  case atStart => exact ⟨0, Nat.zero_le _, rfl, O0, W0⟩
  case round =>
    clear W0 O0
    obtain ⟨kx, hk, rfl, O, HB⟩ := hrel
    obtain ⟨sa, sc, rfl⟩ := own_len O.out
    have htk : (L.take kx).length = kx := by rw [List.length_take, ← hn.out]; omega
    rw [htk] at O
    try rw [htk]
    replace htk := Lib.hid htk
    by_cases hlt : kx < n
    · obtain ⟨⟨f, t⟩, hp⟩ : ∃ p, L[kx]? = some p := ⟨L[kx]'(by rw [← hn.out]; exact hlt), List.getElem?_eq_getElem _⟩
      have ft := CC.out.at hp
      simp only at ft
      obtain ⟨g, rfl, hg, q0, q1⟩ := F.out kx _ hp
      have k0 := (HB.out.cell (p := ⟨g, _, none⟩) hg).trans q0
      have k1 := (HB.out.cell (p := ⟨g, _, none⟩) hg).trans q1
      dsimp only at k0 k1
      have b1 : (kx : Int) < n := by omega
      have hp' := Lib.hid hp
      have PRE : Hid (∀ k1 : Nat, k1 + 1 = kx → ∃ x gs, sa = some ⟨gs, 0, none⟩ ∧ wr.cell? ⟨gs, k1 * 2, none⟩ = some (.int .i64 x) ∧ x < f ∧ kx ≤ sc) := Lib.hid fun k1 he => by
        obtain ⟨⟨x, y⟩, hx⟩ : ∃ p, L[k1]? = some p := ⟨L[k1]'(by rw [← hn.out]; omega), List.getElem?_eq_getElem _⟩
        have hx2 : (L.take kx)[k1]? = some (x, y) := by rw [List.getElem?_take, if_pos (by omega)]; exact hx
        obtain ⟨_, h2, gs, e, _, _, h4, _⟩ := own_get O.out hx2
        have h5 := CC.out.get (show k1 < kx by omega) hx hp
        have h6 := CC.out.at hx
        simp only at h5 h6
        exact ⟨x, gs, e, h4, by omega, by omega⟩
      clear q0 q1 hp
      go_wp2_with fail
      go_quiet (fail)
      go_wp2_with fail
      obtain ⟨wo, hwo⟩ : ∃ wo, wo = wr := ⟨_, rfl⟩
      subst hwo
      go_loopw [5] (fun v5 wr => v5 = .int .i64 kx ∧ Hid (Below wo.heap.size wo wr)) (fun _ _ => 0)
      case atStart => exact ⟨rfl, Lib.hid (by repeat (first | exact Below.refl _ _ | refine Buf.below_drewN ?_ _))⟩
      case round =>
        obtain ⟨rfl, hb1⟩ := hrel
        rcases Nat.eq_zero_or_pos kx with hk0 | hk0
        · have d0 : decide ((0 : Int) < (kx : Int)) = false := decide_eq_false (by omega)
          have d0n : decide (0 < kx) = false := decide_eq_false (by omega)
          have kk0 := (hb1.out.cell (p := ⟨g, _, none⟩) (World.block_lt_of_cell? _ _ k0)).trans k0
          have kk1 := (hb1.out.cell (p := ⟨g, _, none⟩) (World.block_lt_of_cell? _ _ k1)).trans k1
          replace hk0 := Lib.hid hk0
          go_wp2_with fail
          go_quiet (fail)
          go_upto_region 9 with fail
          clear d0 d0n
          obtain ⟨wp, hwp⟩ : ∃ wp, wp = wr.drewN nq := ⟨_, rfl⟩
          have bp := Lib.hid (show Below wo.heap.size wo wp by rw [hwp]; exact Buf.below_drewN hb1.out _)
          have j0 : wp.cell? ⟨g, kx * 2, none⟩ = some (.int .i64 f) := by rw [hwp]; exact kk0
          have j1 : wp.cell? ⟨g, kx * 2 + 1, none⟩ = some (.int .i64 t) := by rw [hwp]; exact kk1
          rw [← hwp]
          clear hwp kk0 kk1 k0 k1 hb1 PRE
          have hb3 := Lib.hid (heap_alloc_new wp (.cells #[.int .i64 f, .int .i64 t] 49))
          have O3 := Lib.hid (own_below (own_below O.out bp.out) (new_block (w := wp) (.cells #[.int .i64 f, .int .i64 t] 49)))
          unfold Spans at O3
          rw [htk.out] at O3
          have one : Hid (∀ u ∈ [Value.int .i64 f, .int .i64 t], u.oneCell' = true) := Lib.hid (by intro u hu; simp at hu; rcases hu with rfl | rfl <;> rfl)
          have hB3 := Lib.hid (show w.heap.size ≤ (wp.alloc (.cells #[.int .i64 f, .int .i64 t] 49)).heap.size by have := HB.out.size; have := bp.out.size; simp; omega)
          go_upto_region 10 with (at_builtin; refine wpList_append_lies _ rfl (.tmp 46) (.tmp 51) 23 rfl w.heap.size 49 i0 (.agg #[.int .i64 0, .int .i64 0]) 2 16 Try.underlying23 hi hz0 hz1 hz2 rfl (by decide) _ kx (cells2 (L.take kx)) rfl O3.out ⟨wp.heap.size, 0, none⟩ 1 1 [.int .i64 f, .int .i64 t] rfl rfl (World.news_of_block hb3.out) one.out (by decide) (by unfold maxLen; omega) (by omega) hB3.out _ rfl ?_; intro gq cq w5 O2 G2 hg2 hl2)
          have O5 := Lib.hid (show Spans w5 w.heap.size (.slice (some ⟨gq, 0, none⟩) (kx + 1) cq) (L.take (kx + 1)) by
            unfold Spans
            rw [take_snoc_lp hp'.out, cells2_snoc, List.length_append, htk.out]
            exact O2)
          have B5 := Lib.hid (show Below w.heap.size w w5 from (Buf.then_ (Buf.then_ HB.out bp.out) (new_block (w := wp) (.cells #[.int .i64 f, .int .i64 t] 49))).grown G2 (by have := HB.out.size; have := bp.out.size; simp; omega) (fun b hb => (O3.out.lt b hb).1))
          obtain ⟨hq0, cqk, gq', egq, hgq5, hgqB, z0, z1, z2, z3⟩ := own_get O5.out (show (L.take (kx + 1))[kx]? = some (f, t) by rw [List.getElem?_take, if_pos (by omega)]; exact hp'.out)
          cases egq
          clear hq0
          have qc := Lib.hid (show kx + 1 ≤ cq from cqk)
          have qd := Lib.hid (show kx + 1 ≤ kx + 1 from Nat.le_refl _)
          have qe := Lib.hid (show kx ≤ kx + 1 from Nat.le_succ _)
          have wk : IntKind.i64.wrap ((kx : Int) + 1) = (kx : Int) + 1 := IntWalk.i64_in _ (by omega)
          have ck1 : (kx : Int) + 1 ≤ (cq : Int) := by omega
          have ck2 : (kx : Int) ≤ (cq : Int) := by omega
          have ck3 : (kx : Int) ≤ (kx : Int) + 1 := by omega
          have ck4 : kx ≤ kx + 1 := by omega
          have ck5 : kx + 1 ≤ cq := by omega
          have ck6 : ((kx + 1 : Nat) : Int) = (kx : Int) + 1 := by omega
          have g7 := Lib.hid (show w5.cell? ⟨g, kx * 2, none⟩ = some (.int .i64 f) ∧ w5.cell? ⟨g, kx * 2 + 1, none⟩ = some (.int .i64 t) from by
            obtain ⟨gx, ex, hgx, y0, y1⟩ := F.out kx _ hp'.out
            cases ex
            exact ⟨(B5.out.cell (p := ⟨g, _, none⟩) hgx).trans y0, (B5.out.cell (p := ⟨g, _, none⟩) hgx).trans y1⟩)
          clear O2 G2 hg2 hl2 O3 hb3 hB3 one j0 j1 bp HB O
          replace z0 := Lib.hid z0
          replace z1 := Lib.hid z1
          replace z2 := Lib.hid z2
          replace z3 := Lib.hid z3
          refine wp_region_noPanic ?_
          refine wp_region_any (by kernel_rfl) ?_
          refine Inv.wpAny_inv (fun k => false) [53, 54, 55, 56, 57, 58, 59, 60] (fun w' => Below w5.heap.size w5 w') (fun _ w1 w2 => Below w1.heap.size w1 w2) (fun k => ([fun v_ w_ => v_ = .slice (some ⟨gq, 0, none⟩) (kx + 1) cq, fun v_ w_ => v_ = .int .i64 (kx : Int), fun v_ w_ => v_ = .int .i64 ((kx : Int) + 1), fun v_ w_ => ∃ x c, v_ = .slice x 0 c, fun v_ w_ => v_ = .slice (some ⟨gq, 0, none⟩) (kx + 1) cq, fun v_ w_ => v_ = .int .i64 (kx : Int), fun v_ w_ => ∃ x c, v_ = .slice x 1 c, fun v_ w_ => v_ = .int .i64 0] : List (Value → World → Prop)).getD k (fun _ _ => True)) _ (fun σ => by simp only [Inv.putAll, List.foldl_cons, List.foldl_nil, Act.put, List.setIfInBounds_toArray, List.set_cons_zero, List.set_cons_succ]; rfl) (by kernel_rfl) (by kernel_rfl) ?_ (Below.refl _ _).drew ?_ ?_ 0 #[true, true, true, true, true, true, true, true] (by kernel_rfl) (by kernel_rfl) ?_
          · intro j k v w1 w2 hjk hv hr
            rcases k with _ | k
            · exact hv
            rcases k with _ | k
            · exact hv
            rcases k with _ | k
            · exact hv
            rcases k with _ | k
            · exact hv
            rcases k with _ | k
            · exact hv
            rcases k with _ | k
            · exact hv
            rcases k with _ | k
            · exact hv
            rcases k with _ | k
            · exact hv
            · exact hv
          · intro k t hl hd
            rcases k with _ | k
            · exact absurd hl (by decide +kernel)
            rcases k with _ | k
            · exact absurd hl (by decide +kernel)
            rcases k with _ | k
            · exact absurd hl (by decide +kernel)
            rcases k with _ | k
            · exact absurd hl (by decide +kernel)
            rcases k with _ | k
            · exact absurd hl (by decide +kernel)
            rcases k with _ | k
            · exact absurd hl (by decide +kernel)
            rcases k with _ | k
            · exact absurd hl (by decide +kernel)
            rcases k with _ | k
            · exact absurd hl (by decide +kernel)
            · simp at hd
          · show Inv.Steps _ _ _ _ _ _ _ _ [0, 1, 2, 3, 4, 5, 6, 7]
            refine Inv.Steps.go (by decide) (by rfl) (fun σ wx hw hd K hK => ?_) ?_
            · simp only [List.getElem_toArray, List.getElem_cons_zero, List.getElem_cons_succ, Act.put, List.setIfInBounds_toArray, List.set_cons_zero, List.set_cons_succ] at hK ⊢
              go_simp
              exact hK.out _ _ hw (Below.refl _ _) (rfl)
            refine Inv.Steps.go (by decide) (by rfl) (fun σ wx hw hd K hK => ?_) ?_
            · simp only [List.getElem_toArray, List.getElem_cons_zero, List.getElem_cons_succ, Act.put, List.setIfInBounds_toArray, List.set_cons_zero, List.set_cons_succ] at hK ⊢
              go_simp
              exact hK.out _ _ hw (Below.refl _ _) (rfl)
            refine Inv.Steps.go (by decide) (by rfl) (fun σ wx hw hd K hK => ?_) ?_
            · obtain e54 : (σ 54) = .int .i64 (kx : Int) := hd 1 (some 54) (by kernel_rfl) (by rfl)
              simp only [List.getElem_toArray, List.getElem_cons_zero, List.getElem_cons_succ, Act.put, List.setIfInBounds_toArray, List.set_cons_zero, List.set_cons_succ, e54] at hK ⊢
              go_simp
              exact hK.out _ _ hw (Below.refl _ _) (rfl)
            refine Inv.Steps.go (by decide) (by rfl) (fun σ wx hw hd K hK => ?_) ?_
            · obtain e53 : (σ 53) = .slice (some ⟨gq, 0, none⟩) (kx + 1) cq := hd 0 (some 53) (by kernel_rfl) (by rfl)
              obtain e55 : (σ 55) = .int .i64 ((kx : Int) + 1) := hd 2 (some 55) (by kernel_rfl) (by rfl)
              simp only [List.getElem_toArray, List.getElem_cons_zero, List.getElem_cons_succ, Act.put, List.setIfInBounds_toArray, List.set_cons_zero, List.set_cons_succ, e53, e55] at hK ⊢
              go_simp
              try simp only [if_pos qc.out, if_pos qd.out, if_pos qe.out]
              try go_simp
              exact hK.out _ _ hw (Below.refl _ _) (⟨_, _, rfl⟩)
            refine Inv.Steps.go (by decide) (by rfl) (fun σ wx hw hd K hK => ?_) ?_
            · simp only [List.getElem_toArray, List.getElem_cons_zero, List.getElem_cons_succ, Act.put, List.setIfInBounds_toArray, List.set_cons_zero, List.set_cons_succ] at hK ⊢
              go_simp
              exact hK.out _ _ hw (Below.refl _ _) (rfl)
            refine Inv.Steps.go (by decide) (by rfl) (fun σ wx hw hd K hK => ?_) ?_
            · simp only [List.getElem_toArray, List.getElem_cons_zero, List.getElem_cons_succ, Act.put, List.setIfInBounds_toArray, List.set_cons_zero, List.set_cons_succ] at hK ⊢
              go_simp
              exact hK.out _ _ hw (Below.refl _ _) (rfl)
            refine Inv.Steps.go (by decide) (by rfl) (fun σ wx hw hd K hK => ?_) ?_
            · obtain e57 : (σ 57) = .slice (some ⟨gq, 0, none⟩) (kx + 1) cq := hd 4 (some 57) (by kernel_rfl) (by rfl)
              obtain e58 : (σ 58) = .int .i64 (kx : Int) := hd 5 (some 58) (by kernel_rfl) (by rfl)
              simp only [List.getElem_toArray, List.getElem_cons_zero, List.getElem_cons_succ, Act.put, List.setIfInBounds_toArray, List.set_cons_zero, List.set_cons_succ, e57, e58] at hK ⊢
              go_simp
              try simp only [if_pos qc.out, if_pos qd.out, if_pos qe.out]
              try go_simp
              exact hK.out _ _ hw (Below.refl _ _) (⟨_, _, rfl⟩)
            refine Inv.Steps.go (by decide) (by rfl) (fun σ wx hw hd K hK => ?_) ?_
            · obtain ⟨x56, c56, e56⟩ : ∃ x c, (σ 56) = .slice x 0 c := hd 3 (some 56) (by kernel_rfl) (by rfl)
              obtain ⟨x59, c59, e59⟩ : ∃ x c, (σ 59) = .slice x 1 c := hd 6 (some 59) (by kernel_rfl) (by rfl)
              simp only [List.getElem_toArray, List.getElem_cons_zero, List.getElem_cons_succ, Act.put, List.setIfInBounds_toArray, List.set_cons_zero, List.set_cons_succ, e56, e59] at hK ⊢
              refine wp_copy_none (.tmp 56) (.tmp 59) 23 23 rfl 49 2 Try.underlying23 hsz x56 x59 c56 1 c59 (by simp [Act.eval]) (by simp [Act.eval]) ?_
              exact hK.out _ _ hw (Below.refl _ _) (rfl)
            exact Inv.Steps.nil
          · intro σ wx hw hd
            have HW := Lib.hid hw
            clear hd hw
            refine Inv.done (by kernel_rfl) (NoPanic.normal ?_)
            generalize σ 53 = v53
            generalize σ 54 = v54
            generalize σ 55 = v55
            generalize σ 56 = v56
            generalize σ 57 = v57
            generalize σ 58 = v58
            generalize σ 59 = v59
            generalize σ 60 = v60
            have y0 := (HW.out.cell (p := ⟨g, _, none⟩) (World.block_lt_of_cell? _ _ g7.out.1)).trans g7.out.1
            have y1 := (HW.out.cell (p := ⟨g, _, none⟩) (World.block_lt_of_cell? _ _ g7.out.2)).trans g7.out.2
            have s0 := (HW.out.cell (p := ⟨gq, _, none⟩) hgq5).trans z0.out
            have s1 := (HW.out.cell (p := ⟨gq, _, none⟩) hgq5).trans z1.out
            have s2 := (World.frozen?_of_block (a := ⟨gq, kx * 2, none⟩) (HW.out.block gq hgq5)).trans z2.out
            have s3 := (World.frozen?_of_block (a := ⟨gq, kx * 2 + 1, none⟩) (HW.out.block gq hgq5)).trans z3.out
            have I0 := Lib.hid (setCell_id s0)
            have I1 := Lib.hid (setCell_id s1)
            have OX := Lib.hid (own_below O5.out HW.out)
            have BX := Lib.hid (Buf.then_ B5.out HW.out)
            dsimp only at y0 y1 s0 s1
            go_wp2_with fail
            go_roundw
            case rel => exact ⟨kx + 1, by omega, by go_num, Lib.hid (by rw [I0.out, I1.out]; exact OX.out), Lib.hid (by rw [I0.out, I1.out]; exact BX.out)⟩
            case measure => simp [intOf]; omega
        · obtain ⟨k1', hk1⟩ : ∃ k1', k1' + 1 = kx := ⟨kx - 1, by omega⟩
          obtain ⟨x, gs, rfl, c3, xf, ksc⟩ := PRE.out k1' hk1
          have e1 : (kx : Int) - 1 = (k1' : Int) := by omega
          have d0 : decide ((0 : Int) < (kx : Int)) = true := decide_eq_true (by omega)
          have d1 : decide (f < x) = false := decide_eq_false (by omega)
          have kk0 := (hb1.out.cell (p := ⟨g, _, none⟩) (World.block_lt_of_cell? _ _ k0)).trans k0
          have kk1 := (hb1.out.cell (p := ⟨g, _, none⟩) (World.block_lt_of_cell? _ _ k1)).trans k1
          have kk3 := (hb1.out.cell (p := ⟨gs, _, none⟩) (World.block_lt_of_cell? _ _ c3)).trans c3
          have bk : (k1' : Int) < (kx : Int) := by omega
          replace hk1 := Lib.hid hk1
          go_wp2_with fail
          go_quiet (fail)
          go_upto_region 9 with fail
          clear d0 d1 c3 kk3 e1 bk xf
          obtain ⟨wp, hwp⟩ : ∃ wp, wp = wr.drewN nq := ⟨_, rfl⟩
          have bp := Lib.hid (show Below wo.heap.size wo wp by rw [hwp]; exact Buf.below_drewN hb1.out _)
          have j0 : wp.cell? ⟨g, kx * 2, none⟩ = some (.int .i64 f) := by rw [hwp]; exact kk0
          have j1 : wp.cell? ⟨g, kx * 2 + 1, none⟩ = some (.int .i64 t) := by rw [hwp]; exact kk1
          rw [← hwp]
          clear hwp kk0 kk1 k0 k1 hb1 PRE
          have hb3 := Lib.hid (heap_alloc_new wp (.cells #[.int .i64 f, .int .i64 t] 49))
          have O3 := Lib.hid (own_below (own_below O.out bp.out) (new_block (w := wp) (.cells #[.int .i64 f, .int .i64 t] 49)))
          unfold Spans at O3
          rw [htk.out] at O3
          have one : Hid (∀ u ∈ [Value.int .i64 f, .int .i64 t], u.oneCell' = true) := Lib.hid (by intro u hu; simp at hu; rcases hu with rfl | rfl <;> rfl)
          have hB3 := Lib.hid (show w.heap.size ≤ (wp.alloc (.cells #[.int .i64 f, .int .i64 t] 49)).heap.size by have := HB.out.size; have := bp.out.size; simp; omega)
          go_upto_region 10 with (at_builtin; refine wpList_append_lies _ rfl (.tmp 46) (.tmp 51) 23 rfl w.heap.size 49 i0 (.agg #[.int .i64 0, .int .i64 0]) 2 16 Try.underlying23 hi hz0 hz1 hz2 rfl (by decide) _ kx (cells2 (L.take kx)) rfl O3.out ⟨wp.heap.size, 0, none⟩ 1 1 [.int .i64 f, .int .i64 t] rfl rfl (World.news_of_block hb3.out) one.out (by decide) (by unfold maxLen; omega) (by omega) hB3.out _ rfl ?_; intro gq cq w5 O2 G2 hg2 hl2)
          have O5 := Lib.hid (show Spans w5 w.heap.size (.slice (some ⟨gq, 0, none⟩) (kx + 1) cq) (L.take (kx + 1)) by
            unfold Spans
            rw [take_snoc_lp hp'.out, cells2_snoc, List.length_append, htk.out]
            exact O2)
          have B5 := Lib.hid (show Below w.heap.size w w5 from (Buf.then_ (Buf.then_ HB.out bp.out) (new_block (w := wp) (.cells #[.int .i64 f, .int .i64 t] 49))).grown G2 (by have := HB.out.size; have := bp.out.size; simp; omega) (fun b hb => (O3.out.lt b hb).1))
          obtain ⟨hq0, cqk, gq', egq, hgq5, hgqB, z0, z1, z2, z3⟩ := own_get O5.out (show (L.take (kx + 1))[kx]? = some (f, t) by rw [List.getElem?_take, if_pos (by omega)]; exact hp'.out)
          cases egq
          clear hq0
          have qc := Lib.hid (show kx + 1 ≤ cq from cqk)
          have qd := Lib.hid (show kx + 1 ≤ kx + 1 from Nat.le_refl _)
          have qe := Lib.hid (show kx ≤ kx + 1 from Nat.le_succ _)
          have wk : IntKind.i64.wrap ((kx : Int) + 1) = (kx : Int) + 1 := IntWalk.i64_in _ (by omega)
          have ck1 : (kx : Int) + 1 ≤ (cq : Int) := by omega
          have ck2 : (kx : Int) ≤ (cq : Int) := by omega
          have ck3 : (kx : Int) ≤ (kx : Int) + 1 := by omega
          have ck4 : kx ≤ kx + 1 := by omega
          have ck5 : kx + 1 ≤ cq := by omega
          have ck6 : ((kx + 1 : Nat) : Int) = (kx : Int) + 1 := by omega
          have g7 := Lib.hid (show w5.cell? ⟨g, kx * 2, none⟩ = some (.int .i64 f) ∧ w5.cell? ⟨g, kx * 2 + 1, none⟩ = some (.int .i64 t) from by
            obtain ⟨gx, ex, hgx, y0, y1⟩ := F.out kx _ hp'.out
            cases ex
            exact ⟨(B5.out.cell (p := ⟨g, _, none⟩) hgx).trans y0, (B5.out.cell (p := ⟨g, _, none⟩) hgx).trans y1⟩)
          clear O2 G2 hg2 hl2 O3 hb3 hB3 one j0 j1 bp HB O
          replace z0 := Lib.hid z0
          replace z1 := Lib.hid z1
          replace z2 := Lib.hid z2
          replace z3 := Lib.hid z3
          refine wp_region_noPanic ?_
          refine wp_region_any (by kernel_rfl) ?_
          refine Inv.wpAny_inv (fun k => false) [53, 54, 55, 56, 57, 58, 59, 60] (fun w' => Below w5.heap.size w5 w') (fun _ w1 w2 => Below w1.heap.size w1 w2) (fun k => ([fun v_ w_ => v_ = .slice (some ⟨gq, 0, none⟩) (kx + 1) cq, fun v_ w_ => v_ = .int .i64 (kx : Int), fun v_ w_ => v_ = .int .i64 ((kx : Int) + 1), fun v_ w_ => ∃ x c, v_ = .slice x 0 c, fun v_ w_ => v_ = .slice (some ⟨gq, 0, none⟩) (kx + 1) cq, fun v_ w_ => v_ = .int .i64 (kx : Int), fun v_ w_ => ∃ x c, v_ = .slice x 1 c, fun v_ w_ => v_ = .int .i64 0] : List (Value → World → Prop)).getD k (fun _ _ => True)) _ (fun σ => by simp only [Inv.putAll, List.foldl_cons, List.foldl_nil, Act.put, List.setIfInBounds_toArray, List.set_cons_zero, List.set_cons_succ]; rfl) (by kernel_rfl) (by kernel_rfl) ?_ (Below.refl _ _).drew ?_ ?_ 0 #[true, true, true, true, true, true, true, true] (by kernel_rfl) (by kernel_rfl) ?_
          · intro j k v w1 w2 hjk hv hr
            rcases k with _ | k
            · exact hv
            rcases k with _ | k
            · exact hv
            rcases k with _ | k
            · exact hv
            rcases k with _ | k
            · exact hv
            rcases k with _ | k
            · exact hv
            rcases k with _ | k
            · exact hv
            rcases k with _ | k
            · exact hv
            rcases k with _ | k
            · exact hv
            · exact hv
          · intro k t hl hd
            rcases k with _ | k
            · exact absurd hl (by decide +kernel)
            rcases k with _ | k
            · exact absurd hl (by decide +kernel)
            rcases k with _ | k
            · exact absurd hl (by decide +kernel)
            rcases k with _ | k
            · exact absurd hl (by decide +kernel)
            rcases k with _ | k
            · exact absurd hl (by decide +kernel)
            rcases k with _ | k
            · exact absurd hl (by decide +kernel)
            rcases k with _ | k
            · exact absurd hl (by decide +kernel)
            rcases k with _ | k
            · exact absurd hl (by decide +kernel)
            · simp at hd
          · show Inv.Steps _ _ _ _ _ _ _ _ [0, 1, 2, 3, 4, 5, 6, 7]
            refine Inv.Steps.go (by decide) (by rfl) (fun σ wx hw hd K hK => ?_) ?_
            · simp only [List.getElem_toArray, List.getElem_cons_zero, List.getElem_cons_succ, Act.put, List.setIfInBounds_toArray, List.set_cons_zero, List.set_cons_succ] at hK ⊢
              go_simp
              exact hK.out _ _ hw (Below.refl _ _) (rfl)
            refine Inv.Steps.go (by decide) (by rfl) (fun σ wx hw hd K hK => ?_) ?_
            · simp only [List.getElem_toArray, List.getElem_cons_zero, List.getElem_cons_succ, Act.put, List.setIfInBounds_toArray, List.set_cons_zero, List.set_cons_succ] at hK ⊢
              go_simp
              exact hK.out _ _ hw (Below.refl _ _) (rfl)
            refine Inv.Steps.go (by decide) (by rfl) (fun σ wx hw hd K hK => ?_) ?_
            · obtain e54 : (σ 54) = .int .i64 (kx : Int) := hd 1 (some 54) (by kernel_rfl) (by rfl)
              simp only [List.getElem_toArray, List.getElem_cons_zero, List.getElem_cons_succ, Act.put, List.setIfInBounds_toArray, List.set_cons_zero, List.set_cons_succ, e54] at hK ⊢
              go_simp
              exact hK.out _ _ hw (Below.refl _ _) (rfl)
            refine Inv.Steps.go (by decide) (by rfl) (fun σ wx hw hd K hK => ?_) ?_
            · obtain e53 : (σ 53) = .slice (some ⟨gq, 0, none⟩) (kx + 1) cq := hd 0 (some 53) (by kernel_rfl) (by rfl)
              obtain e55 : (σ 55) = .int .i64 ((kx : Int) + 1) := hd 2 (some 55) (by kernel_rfl) (by rfl)
              simp only [List.getElem_toArray, List.getElem_cons_zero, List.getElem_cons_succ, Act.put, List.setIfInBounds_toArray, List.set_cons_zero, List.set_cons_succ, e53, e55] at hK ⊢
              go_simp
              try simp only [if_pos qc.out, if_pos qd.out, if_pos qe.out]
              try go_simp
              exact hK.out _ _ hw (Below.refl _ _) (⟨_, _, rfl⟩)
            refine Inv.Steps.go (by decide) (by rfl) (fun σ wx hw hd K hK => ?_) ?_
            · simp only [List.getElem_toArray, List.getElem_cons_zero, List.getElem_cons_succ, Act.put, List.setIfInBounds_toArray, List.set_cons_zero, List.set_cons_succ] at hK ⊢
              go_simp
              exact hK.out _ _ hw (Below.refl _ _) (rfl)
            refine Inv.Steps.go (by decide) (by rfl) (fun σ wx hw hd K hK => ?_) ?_
            · simp only [List.getElem_toArray, List.getElem_cons_zero, List.getElem_cons_succ, Act.put, List.setIfInBounds_toArray, List.set_cons_zero, List.set_cons_succ] at hK ⊢
              go_simp
              exact hK.out _ _ hw (Below.refl _ _) (rfl)
            refine Inv.Steps.go (by decide) (by rfl) (fun σ wx hw hd K hK => ?_) ?_
            · obtain e57 : (σ 57) = .slice (some ⟨gq, 0, none⟩) (kx + 1) cq := hd 4 (some 57) (by kernel_rfl) (by rfl)
              obtain e58 : (σ 58) = .int .i64 (kx : Int) := hd 5 (some 58) (by kernel_rfl) (by rfl)
              simp only [List.getElem_toArray, List.getElem_cons_zero, List.getElem_cons_succ, Act.put, List.setIfInBounds_toArray, List.set_cons_zero, List.set_cons_succ, e57, e58] at hK ⊢
              go_simp
              try simp only [if_pos qc.out, if_pos qd.out, if_pos qe.out]
              try go_simp
              exact hK.out _ _ hw (Below.refl _ _) (⟨_, _, rfl⟩)
            refine Inv.Steps.go (by decide) (by rfl) (fun σ wx hw hd K hK => ?_) ?_
            · obtain ⟨x56, c56, e56⟩ : ∃ x c, (σ 56) = .slice x 0 c := hd 3 (some 56) (by kernel_rfl) (by rfl)
              obtain ⟨x59, c59, e59⟩ : ∃ x c, (σ 59) = .slice x 1 c := hd 6 (some 59) (by kernel_rfl) (by rfl)
              simp only [List.getElem_toArray, List.getElem_cons_zero, List.getElem_cons_succ, Act.put, List.setIfInBounds_toArray, List.set_cons_zero, List.set_cons_succ, e56, e59] at hK ⊢
              refine wp_copy_none (.tmp 56) (.tmp 59) 23 23 rfl 49 2 Try.underlying23 hsz x56 x59 c56 1 c59 (by simp [Act.eval]) (by simp [Act.eval]) ?_
              exact hK.out _ _ hw (Below.refl _ _) (rfl)
            exact Inv.Steps.nil
          · intro σ wx hw hd
            have HW := Lib.hid hw
            clear hd hw
            refine Inv.done (by kernel_rfl) (NoPanic.normal ?_)
            generalize σ 53 = v53
            generalize σ 54 = v54
            generalize σ 55 = v55
            generalize σ 56 = v56
            generalize σ 57 = v57
            generalize σ 58 = v58
            generalize σ 59 = v59
            generalize σ 60 = v60
            have y0 := (HW.out.cell (p := ⟨g, _, none⟩) (World.block_lt_of_cell? _ _ g7.out.1)).trans g7.out.1
            have y1 := (HW.out.cell (p := ⟨g, _, none⟩) (World.block_lt_of_cell? _ _ g7.out.2)).trans g7.out.2
            have s0 := (HW.out.cell (p := ⟨gq, _, none⟩) hgq5).trans z0.out
            have s1 := (HW.out.cell (p := ⟨gq, _, none⟩) hgq5).trans z1.out
            have s2 := (World.frozen?_of_block (a := ⟨gq, kx * 2, none⟩) (HW.out.block gq hgq5)).trans z2.out
            have s3 := (World.frozen?_of_block (a := ⟨gq, kx * 2 + 1, none⟩) (HW.out.block gq hgq5)).trans z3.out
            have I0 := Lib.hid (setCell_id s0)
            have I1 := Lib.hid (setCell_id s1)
            have OX := Lib.hid (own_below O5.out HW.out)
            have BX := Lib.hid (Buf.then_ B5.out HW.out)
            dsimp only at y0 y1 s0 s1
            go_wp2_with fail
            go_roundw
            case rel => exact ⟨kx + 1, by omega, by go_num, Lib.hid (by rw [I0.out, I1.out]; exact OX.out), Lib.hid (by rw [I0.out, I1.out]; exact BX.out)⟩
            case measure => simp [intOf]; omega
    · obtain rfl : kx = n := by omega
      have hL : L.take kx = L := List.take_of_length_le (by rw [← hn.out]; exact Nat.le_refl _)
      rw [hL] at O
      clear htk hL hlt hk
      obtain ⟨w2, hw2⟩ : ∃ z, z = wr := ⟨_, rfl⟩
      subst hw2
      obtain ⟨n, hnn⟩ : ∃ n, n = kx := ⟨_, rfl⟩
      subst hnn
      have FS := Lib.hid (fun (j : Nat) (p : Int × Int) (hj : L[j]? = some p) => own_get O.out hj)
      have B0 := Lib.hid (Below.refl w2.heap.size w2)
      have Z0 : Hid (Spans w2 w2.heap.size (.slice none 0 0) (L.take 0)) := Lib.hid (World.ownsRow_nil _ _ _ _)
      go_wp2_with fail
      go_loopw [6, 7] (fun s i wr => ∃ kx : Nat, kx ≤ n ∧ i = .int .i64 kx ∧ Hid (Spans wr w2.heap.size s (L.take kx)) ∧ Hid (Below w2.heap.size w2 wr)) (fun _ i _ => n - (intOf i).toNat)
      case atStart => exact ⟨0, Nat.zero_le _, rfl, Z0, B0⟩
      case round =>
        clear B0 Z0
        obtain ⟨kx, hk, rfl, OT, HC⟩ := hrel
        obtain ⟨ta, tc, rfl⟩ := own_len OT.out
        have htk : (L.take kx).length = kx := by rw [List.length_take, ← hn.out]; omega
        rw [htk] at OT
        try rw [htk]
        replace htk := Lib.hid htk
        by_cases hlt : kx < n
        · obtain ⟨⟨f, t⟩, hp⟩ : ∃ p, L[kx]? = some p := ⟨L[kx]'(by rw [← hn.out]; exact hlt), List.getElem?_eq_getElem _⟩
          obtain ⟨hz1_, hz2_, g, rfl, hg, hgB, q0, q1, _⟩ := FS.out _ _ hp
          have k0 := (HC.out.cell (p := ⟨g, _, none⟩) hg).trans q0
          have k1 := (HC.out.cell (p := ⟨g, _, none⟩) hg).trans q1
          dsimp only at k0 k1
          have b1 : (kx : Int) < n := by omega
          have hp' := Lib.hid hp
          have PRE : Hid (∀ k1 : Nat, k1 + 1 = kx → ∃ y gs, ta = some ⟨gs, 0, none⟩ ∧ wr.cell? ⟨gs, k1 * 2 + 1, none⟩ = some (.int .i64 y) ∧ y < f ∧ kx ≤ tc) := Lib.hid fun k1 he => by
            obtain ⟨⟨x, y⟩, hx⟩ : ∃ p, L[k1]? = some p := ⟨L[k1]'(by rw [← hn.out]; omega), List.getElem?_eq_getElem _⟩
            have hx2 : (L.take kx)[k1]? = some (x, y) := by rw [List.getElem?_take, if_pos (by omega)]; exact hx
            obtain ⟨_, h2, gs, e, _, _, _, h4, _⟩ := own_get OT.out hx2
            have h5 := CC.out.get (show k1 < kx by omega) hx hp
            simp only at h5
            exact ⟨y, gs, e, h4, by omega, by omega⟩
          clear q0 q1 hp hz1_
          rcases Nat.eq_zero_or_pos kx with hk0 | hk0
          · have d0 : decide ((0 : Int) < (kx : Int)) = false := decide_eq_false (by omega)
            have d0n : decide (0 < kx) = false := decide_eq_false (by omega)
            replace hk0 := Lib.hid hk0
            go_wp2_with fail
            go_quiet (fail)
            go_upto_region 19 with fail
            clear d0 d0n
            obtain ⟨wp, hwp⟩ : ∃ wp, wp = wr.drewN nq := ⟨_, rfl⟩
            have bp := Lib.hid (show Below wr.heap.size wr wp by rw [hwp]; exact Buf.below_drewN (Below.refl _ _) _)
            have j0 : wp.cell? ⟨g, kx * 2, none⟩ = some (.int .i64 f) := by rw [hwp]; exact k0
            have j1 : wp.cell? ⟨g, kx * 2 + 1, none⟩ = some (.int .i64 t) := by rw [hwp]; exact k1
            rw [← hwp]
            clear hwp k0 k1 PRE
            have hb3 := Lib.hid (heap_alloc_new wp (.cells #[.int .i64 f, .int .i64 t] 49))
            have O3 := Lib.hid (own_below (own_below OT.out bp.out) (new_block (w := wp) (.cells #[.int .i64 f, .int .i64 t] 49)))
            unfold Spans at O3
            rw [htk.out] at O3
            have one : Hid (∀ u ∈ [Value.int .i64 f, .int .i64 t], u.oneCell' = true) := Lib.hid (by intro u hu; simp at hu; rcases hu with rfl | rfl <;> rfl)
            have hB3 := Lib.hid (show w2.heap.size ≤ (wp.alloc (.cells #[.int .i64 f, .int .i64 t] 49)).heap.size by have := HC.out.size; have := bp.out.size; simp; omega)
            go_wp2_with (at_builtin; refine wpList_append_lies _ rfl (.tmp 109) (.tmp 114) 23 rfl w2.heap.size 49 i0 (.agg #[.int .i64 0, .int .i64 0]) 2 16 Try.underlying23 hi hz0 hz1 hz2 rfl (by decide) _ kx (cells2 (L.take kx)) rfl O3.out ⟨wp.heap.size, 0, none⟩ 1 1 [.int .i64 f, .int .i64 t] rfl rfl (World.news_of_block hb3.out) one.out (by decide) (by unfold maxLen; omega) (by omega) hB3.out _ rfl ?_; intro gq cq w5 O2 G2 hg2 hl2)
            have O5 := Lib.hid (show Spans w5 w2.heap.size (.slice (some ⟨gq, 0, none⟩) (kx + 1) cq) (L.take (kx + 1)) by
              unfold Spans
              rw [take_snoc_lp hp'.out, cells2_snoc, List.length_append, htk.out]
              exact O2)
            have B5 := Lib.hid (show Below w2.heap.size w2 w5 from (Buf.then_ (Buf.then_ HC.out bp.out) (new_block (w := wp) (.cells #[.int .i64 f, .int .i64 t] 49))).grown G2 (by have := HC.out.size; have := bp.out.size; simp; omega) (fun b hb => (O3.out.lt b hb).1))
            clear O2 G2 hg2 hl2 O3 hb3 hB3 one j0 j1 bp OT HC
            go_roundw
            case rel => exact ⟨kx + 1, by omega, by go_num, O5, B5⟩
            case measure => simp [intOf]; omega
          · obtain ⟨k1', hk1⟩ : ∃ k1', k1' + 1 = kx := ⟨kx - 1, by omega⟩
            obtain ⟨x, gs, rfl, c3, xf, ksc⟩ := PRE.out k1' hk1
            have e1 : (kx : Int) - 1 = (k1' : Int) := by omega
            have d0 : decide ((0 : Int) < (kx : Int)) = true := decide_eq_true (by omega)
            have d1 : decide (f ≤ x) = false := decide_eq_false (by omega)
            have bk : (k1' : Int) < (kx : Int) := by omega
            replace hk1 := Lib.hid hk1
            go_wp2_with fail
            go_quiet (fail)
            go_upto_region 19 with fail
            clear d0 d1 c3 e1 bk xf
            obtain ⟨wp, hwp⟩ : ∃ wp, wp = wr.drewN nq := ⟨_, rfl⟩
            have bp := Lib.hid (show Below wr.heap.size wr wp by rw [hwp]; exact Buf.below_drewN (Below.refl _ _) _)
            have j0 : wp.cell? ⟨g, kx * 2, none⟩ = some (.int .i64 f) := by rw [hwp]; exact k0
            have j1 : wp.cell? ⟨g, kx * 2 + 1, none⟩ = some (.int .i64 t) := by rw [hwp]; exact k1
            rw [← hwp]
            clear hwp k0 k1 PRE
            have hb3 := Lib.hid (heap_alloc_new wp (.cells #[.int .i64 f, .int .i64 t] 49))
            have O3 := Lib.hid (own_below (own_below OT.out bp.out) (new_block (w := wp) (.cells #[.int .i64 f, .int .i64 t] 49)))
            unfold Spans at O3
            rw [htk.out] at O3
            have one : Hid (∀ u ∈ [Value.int .i64 f, .int .i64 t], u.oneCell' = true) := Lib.hid (by intro u hu; simp at hu; rcases hu with rfl | rfl <;> rfl)
            have hB3 := Lib.hid (show w2.heap.size ≤ (wp.alloc (.cells #[.int .i64 f, .int .i64 t] 49)).heap.size by have := HC.out.size; have := bp.out.size; simp; omega)
            go_wp2_with (at_builtin; refine wpList_append_lies _ rfl (.tmp 109) (.tmp 114) 23 rfl w2.heap.size 49 i0 (.agg #[.int .i64 0, .int .i64 0]) 2 16 Try.underlying23 hi hz0 hz1 hz2 rfl (by decide) _ kx (cells2 (L.take kx)) rfl O3.out ⟨wp.heap.size, 0, none⟩ 1 1 [.int .i64 f, .int .i64 t] rfl rfl (World.news_of_block hb3.out) one.out (by decide) (by unfold maxLen; omega) (by omega) hB3.out _ rfl ?_; intro gq cq w5 O2 G2 hg2 hl2)
            have O5 := Lib.hid (show Spans w5 w2.heap.size (.slice (some ⟨gq, 0, none⟩) (kx + 1) cq) (L.take (kx + 1)) by
              unfold Spans
              rw [take_snoc_lp hp'.out, cells2_snoc, List.length_append, htk.out]
              exact O2)
            have B5 := Lib.hid (show Below w2.heap.size w2 w5 from (Buf.then_ (Buf.then_ HC.out bp.out) (new_block (w := wp) (.cells #[.int .i64 f, .int .i64 t] 49))).grown G2 (by have := HC.out.size; have := bp.out.size; simp; omega) (fun b hb => (O3.out.lt b hb).1))
            clear O2 G2 hg2 hl2 O3 hb3 hB3 one j0 j1 bp OT HC
            go_roundw
            case rel => exact ⟨kx + 1, by omega, by go_num, O5, B5⟩
            case measure => simp [intOf]; omega
        · obtain rfl : kx = n := by omega
          have hL : L.take kx = L := List.take_of_length_le (by rw [← hn.out]; exact Nat.le_refl _)
          rw [hL] at OT
          go_wp2_with fail
          go_ret
          have := HB.out.size
          refine ⟨⟨_, rfl, own_mono (B := w2.heap.size) ?_ this⟩, Buf.then_ HB.out HC.out⟩
          rw [← hn.out]
          exact (show wr.ownsRow w2.heap.size 49 2 (.slice ta kx tc) kx (cells2 L) from by have h := OT.out; unfold Spans at h; rw [← hn.out] at h; exact h)

set_option maxHeartbeats 4000000 in
theorem refin_b (n lo hi : Int) (w : World) (h1 : lo ≤ n) (h2 : n ≤ hi) :
    Calls Try.prog 62 #[.int .i64 n, .int .i64 lo, .int .i64 hi] w fun e w' => e = .returned (.bool true) ∧ w' = w := by
  go_enter Try.func62, Try.ntmps62
  go_wp2
  go_ret
  exact ⟨rfl, rfl⟩
theorem near_yes {w : World} {B : Nat} {v : Value} {L : LP} (O : Spans w B v L) (hI : Inside L 0 64) (hC : Canon L) (h9 : L.length ≤ 200) :
    Calls Try.prog 63 #[v] w fun e w' => e = .returned (.bool true) ∧ Below w.heap.size w w' := by
  obtain ⟨sa, sc, rfl⟩ := own_len O
  obtain ⟨n, hn⟩ : ∃ n, n = L.length := ⟨_, rfl⟩
  have FS := Lib.hid (fun (j : Nat) (p : Int × Int) (hj : L[j]? = some p) => own_get O hj)
  rw [← hn] at h9 FS ⊢
  replace hn := Lib.hid hn
  have B0 := Lib.hid (Below.refl w.heap.size w)
  clear O
  go_enter Try.func63, Try.ntmps63
  go_wp2_with fail
  go_loopw [3] (fun i wr => ∃ k : Nat, k ≤ n ∧ i = .int .i64 k ∧ Hid (Below w.heap.size w wr)) (fun i _ => n - (intOf i).toNat)
  case atStart => exact ⟨0, Nat.zero_le _, rfl, B0⟩
  case round =>
    clear B0
    obtain ⟨k, hk, rfl, HB⟩ := hrel
    by_cases hlt : k < n
    · obtain ⟨⟨f, t⟩, hp⟩ : ∃ p, L[k]? = some p := ⟨L[k]'(by rw [← hn.out]; exact hlt), List.getElem?_eq_getElem _⟩
      obtain ⟨hz1_, hz2_, g, rfl, hg, hgB, q0, q1, _⟩ := FS.out _ _ hp
      have hin := hI _ (List.mem_of_getElem? hp)
      have k0 := (HB.out.cell (p := ⟨g, _, none⟩) hg).trans q0
      have k1 := (HB.out.cell (p := ⟨g, _, none⟩) hg).trans q1
      dsimp only at k0 k1 hin
      have b1 : (k : Int) < n := by omega
      have hp' := Lib.hid hp
      have ft := hC.at hp
      simp only at ft
      clear q0 q1 hp hz1_
      obtain ⟨i1, i2⟩ := hin
      have F1 := Lib.hid fun w' => refin_b f (-1152921504606846976) 1152921504606846976 w' (by omega) (by omega)
      have F2 := Lib.hid fun w' => refin_b t (-1152921504606846976) 1152921504606846976 w' (by omega) (by omega)
      go_wp2_with (go_at_call 62; first
        | (with_reducible refine (F1.out _).mono ?_; rintro e w2 ⟨rfl, rfl⟩)
        | (with_reducible refine (F2.out _).mono ?_; rintro e w2 ⟨rfl, rfl⟩))
      go_roundw
      case rel => exact ⟨k + 1, by omega, by go_num, HB⟩
      case measure => simp [intOf]; omega
    · go_wp2_with fail
      go_ret
      exact ⟨rfl, HB.out⟩
set_option maxHeartbeats 4000000 in
set_option maxRecDepth 100000 in
theorem reflength_any {w : World} {v : Value} {L : LP} (h : Its w v L) (hC : Canon L) (hI : Inside L 0 64) (h9 : L.length ≤ 200) :
    Calls Try.prog 36 #[v] w fun e w' => e = .returned (.tuple #[.int .i64 (lenL L), .bool true]) ∧ Below w.heap.size w w' := by
  have NC := Lib.hid (refnormal_canon h hC h9)
  obtain ⟨n, hn⟩ : ∃ n, n = L.length := ⟨_, rfl⟩
  rw [← hn] at h9
  replace hn := Lib.hid hn
  have L0 : lenL (L.take 0) = 0 := rfl
  have CC := Lib.hid hC
  have II := Lib.hid hI
  obtain ⟨tl, htl⟩ : ∃ tl, tl = lenL L := ⟨_, rfl⟩
  rw [← htl]
  replace htl := Lib.hid htl
  clear h hC hI
  go_enter Try.func36, Try.ntmps36
  go_wp2_with fail
  refine NC.out.mono ?_
  rintro e w1 ⟨⟨r, rfl, O⟩, hb1⟩
  have NE := Lib.hid (near_yes O II.out CC.out (by rw [← hn.out]; exact h9))
  obtain ⟨sa, sc, rfl⟩ := own_len O
  rw [← hn.out] at O NE ⊢
  have FS := Lib.hid (fun (j : Nat) (p : Int × Int) (hj : L[j]? = some p) => own_get (L := L) (n := n) O hj)
  have B1 := Lib.hid hb1
  clear O hb1 NC
  go_wp2_with fail
  refine NE.out.mono ?_
  rintro e w2 ⟨rfl, hb2⟩
  have B2 := Lib.hid hb2
  clear hb2 NE
  have B0 := Lib.hid (Below.refl w2.heap.size w2)
  have T0 : Hid ((0 : Int) = lenL (L.take 0)) := Lib.hid rfl
  go_wp2_with fail
  go_loopw [5, 6] (fun s i wr => ∃ (k : Nat) (x : Int), k ≤ n ∧ s = .int .i64 x ∧ i = .int .i64 k ∧ Hid (x = lenL (L.take k)) ∧ 0 ≤ x ∧ x ≤ 64 ∧ Hid (Below w2.heap.size w2 wr)) (fun _ i _ => n - (intOf i).toNat)
  case atStart => exact ⟨0, 0, Nat.zero_le _, rfl, rfl, T0, by omega, by omega, B0⟩
  case round =>
    clear B0 T0
    obtain ⟨k, x, hk, rfl, rfl, hx, x0, x9, HB⟩ := hrel
    by_cases hlt : k < n
    · obtain ⟨⟨f, t⟩, hp⟩ : ∃ p, L[k]? = some p := ⟨L[k]'(by rw [← hn.out]; exact hlt), List.getElem?_eq_getElem _⟩
      obtain ⟨hz1_, hz2_, g, rfl, hg, hgB, q0, q1, _⟩ := FS.out _ _ hp
      have hin := II.out _ (List.mem_of_getElem? hp)
      have hg2 : g < w2.heap.size := Nat.lt_of_lt_of_le hg B2.out.size
      have k0 := (HB.out.cell (p := ⟨g, _, none⟩) hg2).trans ((B2.out.cell (p := ⟨g, _, none⟩) hg).trans q0)
      have k1 := (HB.out.cell (p := ⟨g, _, none⟩) hg2).trans ((B2.out.cell (p := ⟨g, _, none⟩) hg).trans q1)
      have ft := CC.out.at hp
      dsimp only at k0 k1 hin ft
      have b1 : (k : Int) < n := by omega
      have hs := lenL_succ L k _ hp
      rw [← hx.out] at hs
      have hbd := lenL_bounds CC.out (show (0 : Int) ≤ 64 by decide) II.out (k + 1)
      rw [hs] at hbd
      simp only at hs hbd
      obtain ⟨y, hy⟩ : ∃ y, x + (t - f) = y := ⟨_, rfl⟩
      rw [hy] at hs hbd
      obtain ⟨i1, i2⟩ := hin
      obtain ⟨y0, y9⟩ := hbd
      have HS := Lib.hid hs.symm
      have w1_ : IntKind.i64.wrap (t - f) = t - f := IntWalk.i64_in _ (by omega)
      clear q0 q1 hp hz1_ hs hx
      go_wp2_with fail
      go_quiet (fail)
      go_wp2_with fail
      go_roundw
      case rel => exact ⟨k + 1, y, by omega, by first | rfl | exact congrArg _ hy, by go_num, HS, by omega, by omega, Lib.hid (by repeat (first | exact HB.out | refine Buf.below_drewN ?_ _))⟩
      case measure => simp [intOf]; omega
    · obtain rfl : k = n := by omega
      have hL : L.take k = L := List.take_of_length_le (by rw [← hn.out]; exact Nat.le_refl _)
      rw [hL, ← htl.out] at hx
      obtain rfl : x = tl := hx.out
      go_wp2_with fail
      go_ret2
      exact ⟨rfl, Buf.then_ (Buf.then_ B1.out B2.out) HB.out⟩
end Spn
end Go.Proofs.Ytfmhfhggogjbkaa
