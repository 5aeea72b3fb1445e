/- RfNP: texts joined. -/
import Derived.Test.YtfmhfhggogjbkaaSpnEI
import Derived.Test.YtfmhfhggogjbkaaInv
import Derived.Laws.CopyOwn
import Derived.Laws.NewBlocks
import Derived.Deep.AppendLies
import Derived.Deep.DeepCutAuto
import Derived.Test.YtfmhfhggogjbkaaSpnAD
import Derived.Laws.CopyRow
import Derived.Lib.MinMax
import Derived.Deep.RegionHeld3
import Derived.RegionTactic
import Derived.Test.YtfmhfhggogjbkaaMidN
/- The reference's Normal, near and Length at sets that are canonical. -/
set_option linter.unusedVariables false
set_option linter.unusedSimpArgs false
namespace Go.Proofs.Ytfmhfhggogjbkaa
open Go.RowKit Dice
namespace Spn
open Sp (cells2 cells2_snoc cells2_get Spans own_kept own_below own_mono own_shape)
section
variable {P : Program}
/-- copy of nothing. -/
theorem run_copy_none (w : World) (dT sT ty elem : TypeId) (x y : Option Addr) (c m c2 : Nat) (k : Nat) (hu : P.underlying dT = some (.slice elem)) (hs : (P.info? elem).map (·.size) = some k) :
    (Builtin.copy_ #[dT, sT] ty #[.slice x 0 c, .slice y m c2]).run P w = .ok (.int .i64 0) w := by
  cases hq : P.info? elem with
  | none => simp [hq] at hs
  | some i => cases x <;> cases y <;> simp [Builtin.copy_, run_underlying hu, Builtin.lenOf, Builtin.firstCells, sizeOf, typeInfo, hq, storeCells, goInt, loadCells, loadCellsFrom]
theorem wp_copy_none {w : World} {o : Oper} {a : Act} {K : Act → World → Prop} {Q : Exit → Act → World → Prop} (d s : Operand) (dT sT : TypeId)
    (ho : o.op = .call { callee := .builtin .copy, args := #[d, s], argTypes := #[dT, sT] }) (elem : TypeId) (k : Nat) (hu : P.underlying dT = some (.slice elem)) (hsz : (P.info? elem).map (·.size) = some k)
    (x y : Option Addr) (c m c2 : Nat) (hd : a.eval d = .slice x 0 c) (hs : a.eval s = .slice y m c2) (h : K (a.put o.dst (.int .i64 0)) w) : o.wp P a w K Q := by
  have hr := run_copy_none (P := P) w dT sT o.type elem x y c m c2 k hu hsz
  unfold Oper.wp execOp
  simp only [ho, resolve, invoke, builtin, Sem.run_bind, Sem.run_pure, Result.andThen_ok, List.map_toArray, List.map_cons, List.map_nil, hd, hs, hr]
  exact h
end
theorem setCell_id {w : World} {g o : Nat} {v : Value} (h : w.cell? ⟨g, o, none⟩ = some v) : w.setCell ⟨g, o, none⟩ v = w := by
  unfold World.setCell
  have : w.heap.modify g (fun | .cells c elem frozen => .cells (if (none : Option Nat).isSome then c else c.setIfInBounds o v) elem frozen | o => o) = w.heap := by
    apply Array.ext_getElem?
    intro k
    rw [Array.getElem?_modify]
    split
    · rename_i e
      subst e
      unfold World.cell? at h
      cases hb : w.heap[g]? with
      | none => rfl
      | some ob =>
        rw [hb] at h
        cases ob with
        | cells c t fr =>
          simp at h
          simp only [Option.map_some, Option.isSome_none, Bool.false_eq_true, if_false, Option.some.injEq, Obj.cells.injEq, and_true]
          apply Array.ext_getElem?
          intro j
          rw [Array.getElem?_setIfInBounds]
          split
          · rename_i e
            subst e
            split
            · exact h.symm
            · rename_i hn; rw [Array.getElem?_eq_none (by omega)] at h; cases h
          · rfl
        | _ => rfl
    · rfl
  exact congrArg (fun hh => ({ w with heap := hh } : World)) this
theorem take_snoc_lp {L : LP} {k : Nat} {p : Int × Int} (h : L[k]? = some p) : L.take (k + 1) = L.take k ++ [p] := by rw [List.take_add_one, h]; rfl
theorem own_len {w : World} {B : Nat} {v : Value} {L : LP} (h : Spans w B v L) : ∃ a c, v = .slice a L.length c := by
  rcases h.2 with ⟨rfl, h0⟩ | ⟨g, c, _, rfl, _⟩
  · exact ⟨none, 0, by rw [h0]⟩
  · exact ⟨_, c, rfl⟩
theorem own_get {w : World} {B : Nat} {a : Option Addr} {n c : Nat} {L : LP} (h : Spans w B (.slice a n c) L) {k : Nat} {p : Int × Int} (hp : L[k]? = some p) : n = L.length ∧ n ≤ c ∧ ∃ g, a = some ⟨g, 0, none⟩ ∧ g < w.heap.size ∧ B ≤ g ∧ w.cell? ⟨g, k * 2, none⟩ = some (.int .i64 p.1) ∧ w.cell? ⟨g, k * 2 + 1, none⟩ = some (.int .i64 p.2) ∧ w.frozen? ⟨g, k * 2, none⟩ = false ∧ w.frozen? ⟨g, k * 2 + 1, none⟩ = false := by
  have hk := (List.getElem?_eq_some_iff.1 hp).1
  rcases id h.2 with ⟨e, h0⟩ | ⟨g, cap, cur, e, hB, hg, hc, _⟩
  · omega
  · cases e
    obtain ⟨a1, a2⟩ := cells2_get L k p hp
    have f : ∀ j, w.frozen? ⟨g, j, none⟩ = false := fun j => frozen_of_row w g j _ _ hg
    refine ⟨rfl, hc, g, rfl, (Array.getElem?_eq_some_iff.1 hg).1, hB, ?_, ?_, f _, f _⟩
    · rw [h.cellAt _ (by omega)]; exact a1
    · rw [h.cellAt _ (by omega)]; exact a2
set_option maxHeartbeats 4000000 in
set_option maxRecDepth 100000 in
theorem refnormal_canon {w : World} {v : Value} {L : LP} (h : Its w v L) (hC : Canon L) (h9 : L.length ≤ 200) :
    Calls Try.prog 23 #[v] w fun e w' => (∃ r, e = .returned r ∧ Spans w' w.heap.size r L) ∧ Below w.heap.size w w' := by
  obtain ⟨i0, hi, hz0, hz1, hz2⟩ := info_get infoS
  have hsz : (Try.prog.info? 49).map (·.size) = some 2 := by rw [hi]; simp [hz1]
  obtain ⟨ad, c, rfl, hc, hf⟩ := its_form h
  obtain ⟨n, hn⟩ : ∃ n, n = L.length := ⟨_, rfl⟩
  rw [← hn] at hc h9 ⊢
  replace hn := Lib.hid hn
  have F := Lib.hid hf
  have CC := Lib.hid hC
  have W0 := Lib.hid (Below.refl w.heap.size w)
  have O0 : Hid (Spans w w.heap.size (.slice none 0 0) (L.take 0)) := Lib.hid (World.ownsRow_nil _ _ _ _)
  clear h hf hC
  go_enter Try.func23, Try.ntmps23
  go_wp2_with fail
  go_loopw [3, 4] (fun s i wr => ∃ kx : Nat, kx ≤ n ∧ i = .int .i64 kx ∧ Hid (Spans wr w.heap.size s (L.take kx)) ∧ Hid (Below w.heap.size w wr)) (fun _ i _ => n - (intOf i).toNat)
  case atStart => exact ⟨0, Nat.zero_le _, rfl, O0, W0⟩
  case round =>
    clear W0 O0
    obtain ⟨kx, hk, rfl, O, HB⟩ := hrel
    obtain ⟨sa, sc, rfl⟩ := own_len O.out
    have htk : (L.take kx).length = kx := by rw [List.length_take, ← hn.out]; omega
    rw [htk] at O
    try rw [htk]
    replace htk := Lib.hid htk
    by_cases hlt : kx < n
    · obtain ⟨⟨f, t⟩, hp⟩ : ∃ p, L[kx]? = some p := ⟨L[kx]'(by rw [← hn.out]; exact hlt), List.getElem?_eq_getElem _⟩
      have ft := CC.out.at hp
      simp only at ft
      obtain ⟨g, rfl, hg, q0, q1⟩ := F.out kx _ hp
      have k0 := (HB.out.cell (p := ⟨g, _, none⟩) hg).trans q0
      have k1 := (HB.out.cell (p := ⟨g, _, none⟩) hg).trans q1
      dsimp only at k0 k1
      have b1 : (kx : Int) < n := by omega
      have hp' := Lib.hid hp
      have PRE : Hid (∀ k1 : Nat, k1 + 1 = kx → ∃ x gs, sa = some ⟨gs, 0, none⟩ ∧ wr.cell? ⟨gs, k1 * 2, none⟩ = some (.int .i64 x) ∧ x < f ∧ kx ≤ sc) := Lib.hid fun k1 he => by
        obtain ⟨⟨x, y⟩, hx⟩ : ∃ p, L[k1]? = some p := ⟨L[k1]'(by rw [← hn.out]; omega), List.getElem?_eq_getElem _⟩
        have hx2 : (L.take kx)[k1]? = some (x, y) := by rw [List.getElem?_take, if_pos (by omega)]; exact hx
        obtain ⟨_, h2, gs, e, _, _, h4, _⟩ := own_get O.out hx2
        have h5 := CC.out.get (show k1 < kx by omega) hx hp
        have h6 := CC.out.at hx
        simp only at h5 h6
        exact ⟨x, gs, e, h4, by omega, by omega⟩
      clear q0 q1 hp
      go_wp2_with fail
      go_quiet (fail)
      go_wp2_with fail
      obtain ⟨wo, hwo⟩ : ∃ wo, wo = wr := ⟨_, rfl⟩
      subst hwo
      go_loopw [5] (fun v5 wr => v5 = .int .i64 kx ∧ Hid (Below wo.heap.size wo wr)) (fun _ _ => 0)
      case atStart => exact ⟨rfl, Lib.hid (by repeat (first | exact Below.refl _ _ | refine Buf.below_drewN ?_ _))⟩
      case round =>
        obtain ⟨rfl, hb1⟩ := hrel
        rcases Nat.eq_zero_or_pos kx with hk0 | hk0
        · have d0 : decide ((0 : Int) < (kx : Int)) = false := decide_eq_false (by omega)
          have d0n : decide (0 < kx) = false := decide_eq_false (by omega)
          have kk0 := (hb1.out.cell (p := ⟨g, _, none⟩) (World.block_lt_of_cell? _ _ k0)).trans k0
          have kk1 := (hb1.out.cell (p := ⟨g, _, none⟩) (World.block_lt_of_cell? _ _ k1)).trans k1
          replace hk0 := Lib.hid hk0
          go_wp2_with fail
          go_quiet (fail)
          go_upto_region 9 with fail
          clear d0 d0n
          obtain ⟨wp, hwp⟩ : ∃ wp, wp = wr.drewN nq := ⟨_, rfl⟩
          have bp := Lib.hid (show Below wo.heap.size wo wp by rw [hwp]; exact Buf.below_drewN hb1.out _)
          have j0 : wp.cell? ⟨g, kx * 2, none⟩ = some (.int .i64 f) := by rw [hwp]; exact kk0
          have j1 : wp.cell? ⟨g, kx * 2 + 1, none⟩ = some (.int .i64 t) := by rw [hwp]; exact kk1
          rw [← hwp]
          clear hwp kk0 kk1 k0 k1 hb1 PRE
          have hb3 := Lib.hid (heap_alloc_new wp (.cells #[.int .i64 f, .int .i64 t] 49))
          have O3 := Lib.hid (own_below (own_below O.out bp.out) (new_block (w := wp) (.cells #[.int .i64 f, .int .i64 t] 49)))
          unfold Spans at O3
          rw [htk.out] at O3
          have one : Hid (∀ u ∈ [Value.int .i64 f, .int .i64 t], u.oneCell' = true) := Lib.hid (by intro u hu; simp at hu; rcases hu with rfl | rfl <;> rfl)
          have hB3 := Lib.hid (show w.heap.size ≤ (wp.alloc (.cells #[.int .i64 f, .int .i64 t] 49)).heap.size by have := HB.out.size; have := bp.out.size; simp; omega)
          go_upto_region 10 with (at_builtin; refine wpList_append_lies _ rfl (.tmp 46) (.tmp 51) 23 rfl w.heap.size 49 i0 (.agg #[.int .i64 0, .int .i64 0]) 2 16 Try.underlying23 hi hz0 hz1 hz2 rfl (by decide) _ kx (cells2 (L.take kx)) rfl O3.out ⟨wp.heap.size, 0, none⟩ 1 1 [.int .i64 f, .int .i64 t] rfl rfl (World.news_of_block hb3.out) one.out (by decide) (by unfold maxLen; omega) (by omega) hB3.out _ rfl ?_; intro gq cq w5 O2 G2 hg2 hl2)
          have O5 := Lib.hid (show Spans w5 w.heap.size (.slice (some ⟨gq, 0, none⟩) (kx + 1) cq) (L.take (kx + 1)) by
            unfold Spans
            rw [take_snoc_lp hp'.out, cells2_snoc, List.length_append, htk.out]
            exact O2)
          have B5 := Lib.hid (show Below w.heap.size w w5 from (Buf.then_ (Buf.then_ HB.out bp.out) (new_block (w := wp) (.cells #[.int .i64 f, .int .i64 t] 49))).grown G2 (by have := HB.out.size; have := bp.out.size; simp; omega) (fun b hb => (O3.out.lt b hb).1))
          obtain ⟨hq0, cqk, gq', egq, hgq5, hgqB, z0, z1, z2, z3⟩ := own_get O5.out (show (L.take (kx + 1))[kx]? = some (f, t) by rw [List.getElem?_take, if_pos (by omega)]; exact hp'.out)
          cases egq
          clear hq0
          have qc := Lib.hid (show kx + 1 ≤ cq from cqk)
          have qd := Lib.hid (show kx + 1 ≤ kx + 1 from Nat.le_refl _)
          have qe := Lib.hid (show kx ≤ kx + 1 from Nat.le_succ _)
          have wk : IntKind.i64.wrap ((kx : Int) + 1) = (kx : Int) + 1 := IntWalk.i64_in _ (by omega)
          have ck1 : (kx : Int) + 1 ≤ (cq : Int) := by omega
          have ck2 : (kx : Int) ≤ (cq : Int) := by omega
          have ck3 : (kx : Int) ≤ (kx : Int) + 1 := by omega
          have ck4 : kx ≤ kx + 1 := by omega
          have ck5 : kx + 1 ≤ cq := by omega
          have ck6 : ((kx + 1 : Nat) : Int) = (kx : Int) + 1 := by omega
          have g7 := Lib.hid (show w5.cell? ⟨g, kx * 2, none⟩ = some (.int .i64 f) ∧ w5.cell? ⟨g, kx * 2 + 1, none⟩ = some (.int .i64 t) from by
            obtain ⟨gx, ex, hgx, y0, y1⟩ := F.out kx _ hp'.out
            cases ex
            exact ⟨(B5.out.cell (p := ⟨g, _, none⟩) hgx).trans y0, (B5.out.cell (p := ⟨g, _, none⟩) hgx).trans y1⟩)
          clear O2 G2 hg2 hl2 O3 hb3 hB3 one j0 j1 bp HB O
          replace z0 := Lib.hid z0
          replace z1 := Lib.hid z1
          replace z2 := Lib.hid z2
          replace z3 := Lib.hid z3
          refine wp_region_noPanic ?_
          refine wp_region_any (by kernel_rfl) ?_
          refine Inv.wpAny_inv (fun k => false) [53, 54, 55, 56, 57, 58, 59, 60] (fun w' => Below w5.heap.size w5 w') (fun _ w1 w2 => Below w1.heap.size w1 w2) (fun k => ([fun v_ w_ => v_ = .slice (some ⟨gq, 0, none⟩) (kx + 1) cq, fun v_ w_ => v_ = .int .i64 (kx : Int), fun v_ w_ => v_ = .int .i64 ((kx : Int) + 1), fun v_ w_ => ∃ x c, v_ = .slice x 0 c, fun v_ w_ => v_ = .slice (some ⟨gq, 0, none⟩) (kx + 1) cq, fun v_ w_ => v_ = .int .i64 (kx : Int), fun v_ w_ => ∃ x c, v_ = .slice x 1 c, fun v_ w_ => v_ = .int .i64 0] : List (Value → World → Prop)).getD k (fun _ _ => True)) _ (fun σ => by simp only [Inv.putAll, List.foldl_cons, List.foldl_nil, Act.put, List.setIfInBounds_toArray, List.set_cons_zero, List.set_cons_succ]; rfl) (by kernel_rfl) (by kernel_rfl) ?_ (Below.refl _ _).drew ?_ ?_ 0 #[true, true, true, true, true, true, true, true] (by kernel_rfl) (by kernel_rfl) ?_
          · intro j k v w1 w2 hjk hv hr
            rcases k with _ | k
            · exact hv
            rcases k with _ | k
            · exact hv
            rcases k with _ | k
            · exact hv
            rcases k with _ | k
            · exact hv
            rcases k with _ | k
            · exact hv
            rcases k with _ | k
            · exact hv
            rcases k with _ | k
            · exact hv
            rcases k with _ | k
            · exact hv
            · exact hv
          · intro k t hl hd
            rcases k with _ | k
            · exact absurd hl (by decide +kernel)
            rcases k with _ | k
            · exact absurd hl (by decide +kernel)
            rcases k with _ | k
            · exact absurd hl (by decide +kernel)
            rcases k with _ | k
            · exact absurd hl (by decide +kernel)
            rcases k with _ | k
            · exact absurd hl (by decide +kernel)
            rcases k with _ | k
            · exact absurd hl (by decide +kernel)
            rcases k with _ | k
            · exact absurd hl (by decide +kernel)
            rcases k with _ | k
            · exact absurd hl (by decide +kernel)
            · simp at hd
          · show Inv.Steps _ _ _ _ _ _ _ _ [0, 1, 2, 3, 4, 5, 6, 7]
            refine Inv.Steps.go (by decide) (by rfl) (fun σ wx hw hd K hK => ?_) ?_
            · simp only [List.getElem_toArray, List.getElem_cons_zero, List.getElem_cons_succ, Act.put, List.setIfInBounds_toArray, List.set_cons_zero, List.set_cons_succ] at hK ⊢
              go_simp
              exact hK.out _ _ hw (Below.refl _ _) (rfl)
            refine Inv.Steps.go (by decide) (by rfl) (fun σ wx hw hd K hK => ?_) ?_
            · simp only [List.getElem_toArray, List.getElem_cons_zero, List.getElem_cons_succ, Act.put, List.setIfInBounds_toArray, List.set_cons_zero, List.set_cons_succ] at hK ⊢
              go_simp
              exact hK.out _ _ hw (Below.refl _ _) (rfl)
            refine Inv.Steps.go (by decide) (by rfl) (fun σ wx hw hd K hK => ?_) ?_
            · obtain e54 : (σ 54) = .int .i64 (kx : Int) := hd 1 (some 54) (by kernel_rfl) (by rfl)
              simp only [List.getElem_toArray, List.getElem_cons_zero, List.getElem_cons_succ, Act.put, List.setIfInBounds_toArray, List.set_cons_zero, List.set_cons_succ, e54] at hK ⊢
              go_simp
              exact hK.out _ _ hw (Below.refl _ _) (rfl)
            refine Inv.Steps.go (by decide) (by rfl) (fun σ wx hw hd K hK => ?_) ?_
            · obtain e53 : (σ 53) = .slice (some ⟨gq, 0, none⟩) (kx + 1) cq := hd 0 (some 53) (by kernel_rfl) (by rfl)
              obtain e55 : (σ 55) = .int .i64 ((kx : Int) + 1) := hd 2 (some 55) (by kernel_rfl) (by rfl)
              simp only [List.getElem_toArray, List.getElem_cons_zero, List.getElem_cons_succ, Act.put, List.setIfInBounds_toArray, List.set_cons_zero, List.set_cons_succ, e53, e55] at hK ⊢
              go_simp
              try simp only [if_pos qc.out, if_pos qd.out, if_pos qe.out]
              try go_simp
              exact hK.out _ _ hw (Below.refl _ _) (⟨_, _, rfl⟩)
            refine Inv.Steps.go (by decide) (by rfl) (fun σ wx hw hd K hK => ?_) ?_
            · simp only [List.getElem_toArray, List.getElem_cons_zero, List.getElem_cons_succ, Act.put, List.setIfInBounds_toArray, List.set_cons_zero, List.set_cons_succ] at hK ⊢
              go_simp
              exact hK.out _ _ hw (Below.refl _ _) (rfl)
            refine Inv.Steps.go (by decide) (by rfl) (fun σ wx hw hd K hK => ?_) ?_
            · simp only [List.getElem_toArray, List.getElem_cons_zero, List.getElem_cons_succ, Act.put, List.setIfInBounds_toArray, List.set_cons_zero, List.set_cons_succ] at hK ⊢
              go_simp
              exact hK.out _ _ hw (Below.refl _ _) (rfl)
            refine Inv.Steps.go (by decide) (by rfl) (fun σ wx hw hd K hK => ?_) ?_
            · obtain e57 : (σ 57) = .slice (some ⟨gq, 0, none⟩) (kx + 1) cq := hd 4 (some 57) (by kernel_rfl) (by rfl)
              obtain e58 : (σ 58) = .int .i64 (kx : Int) := hd 5 (some 58) (by kernel_rfl) (by rfl)
              simp only [List.getElem_toArray, List.getElem_cons_zero, List.getElem_cons_succ, Act.put, List.setIfInBounds_toArray, List.set_cons_zero, List.set_cons_succ, e57, e58] at hK ⊢
              go_simp
              try simp only [if_pos qc.out, if_pos qd.out, if_pos qe.out]
              try go_simp
              exact hK.out _ _ hw (Below.refl _ _) (⟨_, _, rfl⟩)
            refine Inv.Steps.go (by decide) (by rfl) (fun σ wx hw hd K hK => ?_) ?_
            · obtain ⟨x56, c56, e56⟩ : ∃ x c, (σ 56) = .slice x 0 c := hd 3 (some 56) (by kernel_rfl) (by rfl)
              obtain ⟨x59, c59, e59⟩ : ∃ x c, (σ 59) = .slice x 1 c := hd 6 (some 59) (by kernel_rfl) (by rfl)
              simp only [List.getElem_toArray, List.getElem_cons_zero, List.getElem_cons_succ, Act.put, List.setIfInBounds_toArray, List.set_cons_zero, List.set_cons_succ, e56, e59] at hK ⊢
              refine wp_copy_none (.tmp 56) (.tmp 59) 23 23 rfl 49 2 Try.underlying23 hsz x56 x59 c56 1 c59 (by simp [Act.eval]) (by simp [Act.eval]) ?_
              exact hK.out _ _ hw (Below.refl _ _) (rfl)
            exact Inv.Steps.nil
          · intro σ wx hw hd
            have HW := Lib.hid hw
            clear hd hw
            refine Inv.done (by kernel_rfl) (NoPanic.normal ?_)
            generalize σ 53 = v53
            generalize σ 54 = v54
            generalize σ 55 = v55
            generalize σ 56 = v56
            generalize σ 57 = v57
            generalize σ 58 = v58
            generalize σ 59 = v59
            generalize σ 60 = v60
            have y0 := (HW.out.cell (p := ⟨g, _, none⟩) (World.block_lt_of_cell? _ _ g7.out.1)).trans g7.out.1
            have y1 := (HW.out.cell (p := ⟨g, _, none⟩) (World.block_lt_of_cell? _ _ g7.out.2)).trans g7.out.2
            have s0 := (HW.out.cell (p := ⟨gq, _, none⟩) hgq5).trans z0.out
            have s1 := (HW.out.cell (p := ⟨gq, _, none⟩) hgq5).trans z1.out
            have s2 := (World.frozen?_of_block (a := ⟨gq, kx * 2, none⟩) (HW.out.block gq hgq5)).trans z2.out
            have s3 := (World.frozen?_of_block (a := ⟨gq, kx * 2 + 1, none⟩) (HW.out.block gq hgq5)).trans z3.out
            have I0 := Lib.hid (setCell_id s0)
            have I1 := Lib.hid (setCell_id s1)
            have OX := Lib.hid (own_below O5.out HW.out)
            have BX := Lib.hid (Buf.then_ B5.out HW.out)
            dsimp only at y0 y1 s0 s1
            go_wp2_with fail
            go_roundw
            case rel => exact ⟨kx + 1, by omega, by go_num, Lib.hid (by rw [I0.out, I1.out]; exact OX.out), Lib.hid (by rw [I0.out, I1.out]; exact BX.out)⟩
            case measure => simp [intOf]; omega
        · obtain ⟨k1', hk1⟩ : ∃ k1', k1' + 1 = kx := ⟨kx - 1, by omega⟩
          obtain ⟨x, gs, rfl, c3, xf, ksc⟩ := PRE.out k1' hk1
          have e1 : (kx : Int) - 1 = (k1' : Int) := by omega
          have d0 : decide ((0 : Int) < (kx : Int)) = true := decide_eq_true (by omega)
          have d1 : decide (f < x) = false := decide_eq_false (by omega)
          have kk0 := (hb1.out.cell (p := ⟨g, _, none⟩) (World.block_lt_of_cell? _ _ k0)).trans k0
          have kk1 := (hb1.out.cell (p := ⟨g, _, none⟩) (World.block_lt_of_cell? _ _ k1)).trans k1
          have kk3 := (hb1.out.cell (p := ⟨gs, _, none⟩) (World.block_lt_of_cell? _ _ c3)).trans c3
          have bk : (k1' : Int) < (kx : Int) := by omega
          replace hk1 := Lib.hid hk1
          go_wp2_with fail
          go_quiet (fail)
          go_upto_region 9 with fail
          clear d0 d1 c3 kk3 e1 bk xf
          obtain ⟨wp, hwp⟩ : ∃ wp, wp = wr.drewN nq := ⟨_, rfl⟩
          have bp := Lib.hid (show Below wo.heap.size wo wp by rw [hwp]; exact Buf.below_drewN hb1.out _)
          have j0 : wp.cell? ⟨g, kx * 2, none⟩ = some (.int .i64 f) := by rw [hwp]; exact kk0
          have j1 : wp.cell? ⟨g, kx * 2 + 1, none⟩ = some (.int .i64 t) := by rw [hwp]; exact kk1
          rw [← hwp]
          clear hwp kk0 kk1 k0 k1 hb1 PRE
          have hb3 := Lib.hid (heap_alloc_new wp (.cells #[.int .i64 f, .int .i64 t] 49))
          have O3 := Lib.hid (own_below (own_below O.out bp.out) (new_block (w := wp) (.cells #[.int .i64 f, .int .i64 t] 49)))
          unfold Spans at O3
          rw [htk.out] at O3
          have one : Hid (∀ u ∈ [Value.int .i64 f, .int .i64 t], u.oneCell' = true) := Lib.hid (by intro u hu; simp at hu; rcases hu with rfl | rfl <;> rfl)
          have hB3 := Lib.hid (show w.heap.size ≤ (wp.alloc (.cells #[.int .i64 f, .int .i64 t] 49)).heap.size by have := HB.out.size; have := bp.out.size; simp; omega)
          go_upto_region 10 with (at_builtin; refine wpList_append_lies _ rfl (.tmp 46) (.tmp 51) 23 rfl w.heap.size 49 i0 (.agg #[.int .i64 0, .int .i64 0]) 2 16 Try.underlying23 hi hz0 hz1 hz2 rfl (by decide) _ kx (cells2 (L.take kx)) rfl O3.out ⟨wp.heap.size, 0, none⟩ 1 1 [.int .i64 f, .int .i64 t] rfl rfl (World.news_of_block hb3.out) one.out (by decide) (by unfold maxLen; omega) (by omega) hB3.out _ rfl ?_; intro gq cq w5 O2 G2 hg2 hl2)
          have O5 := Lib.hid (show Spans w5 w.heap.size (.slice (some ⟨gq, 0, none⟩) (kx + 1) cq) (L.take (kx + 1)) by
            unfold Spans
            rw [take_snoc_lp hp'.out, cells2_snoc, List.length_append, htk.out]
            exact O2)
          have B5 := Lib.hid (show Below w.heap.size w w5 from (Buf.then_ (Buf.then_ HB.out bp.out) (new_block (w := wp) (.cells #[.int .i64 f, .int .i64 t] 49))).grown G2 (by have := HB.out.size; have := bp.out.size; simp; omega) (fun b hb => (O3.out.lt b hb).1))
          obtain ⟨hq0, cqk, gq', egq, hgq5, hgqB, z0, z1, z2, z3⟩ := own_get O5.out (show (L.take (kx + 1))[kx]? = some (f, t) by rw [List.getElem?_take, if_pos (by omega)]; exact hp'.out)
          cases egq
          clear hq0
          have qc := Lib.hid (show kx + 1 ≤ cq from cqk)
          have qd := Lib.hid (show kx + 1 ≤ kx + 1 from Nat.le_refl _)
          have qe := Lib.hid (show kx ≤ kx + 1 from Nat.le_succ _)
          have wk : IntKind.i64.wrap ((kx : Int) + 1) = (kx : Int) + 1 := IntWalk.i64_in _ (by omega)
          have ck1 : (kx : Int) + 1 ≤ (cq : Int) := by omega
          have ck2 : (kx : Int) ≤ (cq : Int) := by omega
          have ck3 : (kx : Int) ≤ (kx : Int) + 1 := by omega
          have ck4 : kx ≤ kx + 1 := by omega
          have ck5 : kx + 1 ≤ cq := by omega
          have ck6 : ((kx + 1 : Nat) : Int) = (kx : Int) + 1 := by omega
          have g7 := Lib.hid (show w5.cell? ⟨g, kx * 2, none⟩ = some (.int .i64 f) ∧ w5.cell? ⟨g, kx * 2 + 1, none⟩ = some (.int .i64 t) from by
            obtain ⟨gx, ex, hgx, y0, y1⟩ := F.out kx _ hp'.out
            cases ex
            exact ⟨(B5.out.cell (p := ⟨g, _, none⟩) hgx).trans y0, (B5.out.cell (p := ⟨g, _, none⟩) hgx).trans y1⟩)
          clear O2 G2 hg2 hl2 O3 hb3 hB3 one j0 j1 bp HB O
          replace z0 := Lib.hid z0
          replace z1 := Lib.hid z1
          replace z2 := Lib.hid z2
          replace z3 := Lib.hid z3
          refine wp_region_noPanic ?_
          refine wp_region_any (by kernel_rfl) ?_
          refine Inv.wpAny_inv (fun k => false) [53, 54, 55, 56, 57, 58, 59, 60] (fun w' => Below w5.heap.size w5 w') (fun _ w1 w2 => Below w1.heap.size w1 w2) (fun k => ([fun v_ w_ => v_ = .slice (some ⟨gq, 0, none⟩) (kx + 1) cq, fun v_ w_ => v_ = .int .i64 (kx : Int), fun v_ w_ => v_ = .int .i64 ((kx : Int) + 1), fun v_ w_ => ∃ x c, v_ = .slice x 0 c, fun v_ w_ => v_ = .slice (some ⟨gq, 0, none⟩) (kx + 1) cq, fun v_ w_ => v_ = .int .i64 (kx : Int), fun v_ w_ => ∃ x c, v_ = .slice x 1 c, fun v_ w_ => v_ = .int .i64 0] : List (Value → World → Prop)).getD k (fun _ _ => True)) _ (fun σ => by simp only [Inv.putAll, List.foldl_cons, List.foldl_nil, Act.put, List.setIfInBounds_toArray, List.set_cons_zero, List.set_cons_succ]; rfl) (by kernel_rfl) (by kernel_rfl) ?_ (Below.refl _ _).drew ?_ ?_ 0 #[true, true, true, true, true, true, true, true] (by kernel_rfl) (by kernel_rfl) ?_
          · intro j k v w1 w2 hjk hv hr
            rcases k with _ | k
            · exact hv
            rcases k with _ | k
            · exact hv
            rcases k with _ | k
            · exact hv
            rcases k with _ | k
            · exact hv
            rcases k with _ | k
            · exact hv
            rcases k with _ | k
            · exact hv
            rcases k with _ | k
            · exact hv
            rcases k with _ | k
            · exact hv
            · exact hv
          · intro k t hl hd
            rcases k with _ | k
            · exact absurd hl (by decide +kernel)
            rcases k with _ | k
            · exact absurd hl (by decide +kernel)
            rcases k with _ | k
            · exact absurd hl (by decide +kernel)
            rcases k with _ | k
            · exact absurd hl (by decide +kernel)
            rcases k with _ | k
            · exact absurd hl (by decide +kernel)
            rcases k with _ | k
            · exact absurd hl (by decide +kernel)
            rcases k with _ | k
            · exact absurd hl (by decide +kernel)
            rcases k with _ | k
            · exact absurd hl (by decide +kernel)
            · simp at hd
          · show Inv.Steps _ _ _ _ _ _ _ _ [0, 1, 2, 3, 4, 5, 6, 7]
            refine Inv.Steps.go (by decide) (by rfl) (fun σ wx hw hd K hK => ?_) ?_
            · simp only [List.getElem_toArray, List.getElem_cons_zero, List.getElem_cons_succ, Act.put, List.setIfInBounds_toArray, List.set_cons_zero, List.set_cons_succ] at hK ⊢
              go_simp
              exact hK.out _ _ hw (Below.refl _ _) (rfl)
            refine Inv.Steps.go (by decide) (by rfl) (fun σ wx hw hd K hK => ?_) ?_
            · simp only [List.getElem_toArray, List.getElem_cons_zero, List.getElem_cons_succ, Act.put, List.setIfInBounds_toArray, List.set_cons_zero, List.set_cons_succ] at hK ⊢
              go_simp
              exact hK.out _ _ hw (Below.refl _ _) (rfl)
            refine Inv.Steps.go (by decide) (by rfl) (fun σ wx hw hd K hK => ?_) ?_
            · obtain e54 : (σ 54) = .int .i64 (kx : Int) := hd 1 (some 54) (by kernel_rfl) (by rfl)
              simp only [List.getElem_toArray, List.getElem_cons_zero, List.getElem_cons_succ, Act.put, List.setIfInBounds_toArray, List.set_cons_zero, List.set_cons_succ, e54] at hK ⊢
              go_simp
              exact hK.out _ _ hw (Below.refl _ _) (rfl)
            refine Inv.Steps.go (by decide) (by rfl) (fun σ wx hw hd K hK => ?_) ?_
            · obtain e53 : (σ 53) = .slice (some ⟨gq, 0, none⟩) (kx + 1) cq := hd 0 (some 53) (by kernel_rfl) (by rfl)
              obtain e55 : (σ 55) = .int .i64 ((kx : Int) + 1) := hd 2 (some 55) (by kernel_rfl) (by rfl)
              simp only [List.getElem_toArray, List.getElem_cons_zero, List.getElem_cons_succ, Act.put, List.setIfInBounds_toArray, List.set_cons_zero, List.set_cons_succ, e53, e55] at hK ⊢
              go_simp
              try simp only [if_pos qc.out, if_pos qd.out, if_pos qe.out]
              try go_simp
              exact hK.out _ _ hw (Below.refl _ _) (⟨_, _, rfl⟩)
            refine Inv.Steps.go (by decide) (by rfl) (fun σ wx hw hd K hK => ?_) ?_
            · simp only [List.getElem_toArray, List.getElem_cons_zero, List.getElem_cons_succ, Act.put, List.setIfInBounds_toArray, List.set_cons_zero, List.set_cons_succ] at hK ⊢
              go_simp
              exact hK.out _ _ hw (Below.refl _ _) (rfl)
            refine Inv.Steps.go (by decide) (by rfl) (fun σ wx hw hd K hK => ?_) ?_
            · simp only [List.getElem_toArray, List.getElem_cons_zero, List.getElem_cons_succ, Act.put, List.setIfInBounds_toArray, List.set_cons_zero, List.set_cons_succ] at hK ⊢
              go_simp
              exact hK.out _ _ hw (Below.refl _ _) (rfl)
            refine Inv.Steps.go (by decide) (by rfl) (fun σ wx hw hd K hK => ?_) ?_
            · obtain e57 : (σ 57) = .slice (some ⟨gq, 0, none⟩) (kx + 1) cq := hd 4 (some 57) (by kernel_rfl) (by rfl)
              obtain e58 : (σ 58) = .int .i64 (kx : Int) := hd 5 (some 58) (by kernel_rfl) (by rfl)
              simp only [List.getElem_toArray, List.getElem_cons_zero, List.getElem_cons_succ, Act.put, List.setIfInBounds_toArray, List.set_cons_zero, List.set_cons_succ, e57, e58] at hK ⊢
              go_simp
              try simp only [if_pos qc.out, if_pos qd.out, if_pos qe.out]
              try go_simp
              exact hK.out _ _ hw (Below.refl _ _) (⟨_, _, rfl⟩)
            refine Inv.Steps.go (by decide) (by rfl) (fun σ wx hw hd K hK => ?_) ?_
            · obtain ⟨x56, c56, e56⟩ : ∃ x c, (σ 56) = .slice x 0 c := hd 3 (some 56) (by kernel_rfl) (by rfl)
              obtain ⟨x59, c59, e59⟩ : ∃ x c, (σ 59) = .slice x 1 c := hd 6 (some 59) (by kernel_rfl) (by rfl)
              simp only [List.getElem_toArray, List.getElem_cons_zero, List.getElem_cons_succ, Act.put, List.setIfInBounds_toArray, List.set_cons_zero, List.set_cons_succ, e56, e59] at hK ⊢
              refine wp_copy_none (.tmp 56) (.tmp 59) 23 23 rfl 49 2 Try.underlying23 hsz x56 x59 c56 1 c59 (by simp [Act.eval]) (by simp [Act.eval]) ?_
              exact hK.out _ _ hw (Below.refl _ _) (rfl)
            exact Inv.Steps.nil
          · intro σ wx hw hd
            have HW := Lib.hid hw
            clear hd hw
            refine Inv.done (by kernel_rfl) (NoPanic.normal ?_)
            generalize σ 53 = v53
            generalize σ 54 = v54
            generalize σ 55 = v55
            generalize σ 56 = v56
            generalize σ 57 = v57
            generalize σ 58 = v58
            generalize σ 59 = v59
            generalize σ 60 = v60
            have y0 := (HW.out.cell (p := ⟨g, _, none⟩) (World.block_lt_of_cell? _ _ g7.out.1)).trans g7.out.1
            have y1 := (HW.out.cell (p := ⟨g, _, none⟩) (World.block_lt_of_cell? _ _ g7.out.2)).trans g7.out.2
            have s0 := (HW.out.cell (p := ⟨gq, _, none⟩) hgq5).trans z0.out
            have s1 := (HW.out.cell (p := ⟨gq, _, none⟩) hgq5).trans z1.out
            have s2 := (World.frozen?_of_block (a := ⟨gq, kx * 2, none⟩) (HW.out.block gq hgq5)).trans z2.out
            have s3 := (World.frozen?_of_block (a := ⟨gq, kx * 2 + 1, none⟩) (HW.out.block gq hgq5)).trans z3.out
            have I0 := Lib.hid (setCell_id s0)
            have I1 := Lib.hid (setCell_id s1)
            have OX := Lib.hid (own_below O5.out HW.out)
            have BX := Lib.hid (Buf.then_ B5.out HW.out)
            dsimp only at y0 y1 s0 s1
            go_wp2_with fail
            go_roundw
            case rel => exact ⟨kx + 1, by omega, by go_num, Lib.hid (by rw [I0.out, I1.out]; exact OX.out), Lib.hid (by rw [I0.out, I1.out]; exact BX.out)⟩
            case measure => simp [intOf]; omega
    · obtain rfl : kx = n := by omega
      have hL : L.take kx = L := List.take_of_length_le (by rw [← hn.out]; exact Nat.le_refl _)
      rw [hL] at O
      clear htk hL hlt hk
      obtain ⟨w2, hw2⟩ : ∃ z, z = wr := ⟨_, rfl⟩
      subst hw2
      obtain ⟨n, hnn⟩ : ∃ n, n = kx := ⟨_, rfl⟩
      subst hnn
      have FS := Lib.hid (fun (j : Nat) (p : Int × Int) (hj : L[j]? = some p) => own_get O.out hj)
      have B0 := Lib.hid (Below.refl w2.heap.size w2)
      have Z0 : Hid (Spans w2 w2.heap.size (.slice none 0 0) (L.take 0)) := Lib.hid (World.ownsRow_nil _ _ _ _)
      go_wp2_with fail
      go_loopw [6, 7] (fun s i wr => ∃ kx : Nat, kx ≤ n ∧ i = .int .i64 kx ∧ Hid (Spans wr w2.heap.size s (L.take kx)) ∧ Hid (Below w2.heap.size w2 wr)) (fun _ i _ => n - (intOf i).toNat)
      case atStart => exact ⟨0, Nat.zero_le _, rfl, Z0, B0⟩
      case round =>
        clear B0 Z0
        obtain ⟨kx, hk, rfl, OT, HC⟩ := hrel
        obtain ⟨ta, tc, rfl⟩ := own_len OT.out
        have htk : (L.take kx).length = kx := by rw [List.length_take, ← hn.out]; omega
        rw [htk] at OT
        try rw [htk]
        replace htk := Lib.hid htk
        by_cases hlt : kx < n
        · obtain ⟨⟨f, t⟩, hp⟩ : ∃ p, L[kx]? = some p := ⟨L[kx]'(by rw [← hn.out]; exact hlt), List.getElem?_eq_getElem _⟩
          obtain ⟨hz1_, hz2_, g, rfl, hg, hgB, q0, q1, _⟩ := FS.out _ _ hp
          have k0 := (HC.out.cell (p := ⟨g, _, none⟩) hg).trans q0
          have k1 := (HC.out.cell (p := ⟨g, _, none⟩) hg).trans q1
          dsimp only at k0 k1
          have b1 : (kx : Int) < n := by omega
          have hp' := Lib.hid hp
          have PRE : Hid (∀ k1 : Nat, k1 + 1 = kx → ∃ y gs, ta = some ⟨gs, 0, none⟩ ∧ wr.cell? ⟨gs, k1 * 2 + 1, none⟩ = some (.int .i64 y) ∧ y < f ∧ kx ≤ tc) := Lib.hid fun k1 he => by
            obtain ⟨⟨x, y⟩, hx⟩ : ∃ p, L[k1]? = some p := ⟨L[k1]'(by rw [← hn.out]; omega), List.getElem?_eq_getElem _⟩
            have hx2 : (L.take kx)[k1]? = some (x, y) := by rw [List.getElem?_take, if_pos (by omega)]; exact hx
            obtain ⟨_, h2, gs, e, _, _, _, h4, _⟩ := own_get OT.out hx2
            have h5 := CC.out.get (show k1 < kx by omega) hx hp
            simp only at h5
            exact ⟨y, gs, e, h4, by omega, by omega⟩
          clear q0 q1 hp hz1_
          rcases Nat.eq_zero_or_pos kx with hk0 | hk0
          · have d0 : decide ((0 : Int) < (kx : Int)) = false := decide_eq_false (by omega)
            have d0n : decide (0 < kx) = false := decide_eq_false (by omega)
            replace hk0 := Lib.hid hk0
            go_wp2_with fail
            go_quiet (fail)
            go_upto_region 19 with fail
            clear d0 d0n
            obtain ⟨wp, hwp⟩ : ∃ wp, wp = wr.drewN nq := ⟨_, rfl⟩
            have bp := Lib.hid (show Below wr.heap.size wr wp by rw [hwp]; exact Buf.below_drewN (Below.refl _ _) _)
            have j0 : wp.cell? ⟨g, kx * 2, none⟩ = some (.int .i64 f) := by rw [hwp]; exact k0
            have j1 : wp.cell? ⟨g, kx * 2 + 1, none⟩ = some (.int .i64 t) := by rw [hwp]; exact k1
            rw [← hwp]
            clear hwp k0 k1 PRE
            have hb3 := Lib.hid (heap_alloc_new wp (.cells #[.int .i64 f, .int .i64 t] 49))
            have O3 := Lib.hid (own_below (own_below OT.out bp.out) (new_block (w := wp) (.cells #[.int .i64 f, .int .i64 t] 49)))
            unfold Spans at O3
            rw [htk.out] at O3
            have one : Hid (∀ u ∈ [Value.int .i64 f, .int .i64 t], u.oneCell' = true) := Lib.hid (by intro u hu; simp at hu; rcases hu with rfl | rfl <;> rfl)
            have hB3 := Lib.hid (show w2.heap.size ≤ (wp.alloc (.cells #[.int .i64 f, .int .i64 t] 49)).heap.size by have := HC.out.size; have := bp.out.size; simp; omega)
            go_wp2_with (at_builtin; refine wpList_append_lies _ rfl (.tmp 109) (.tmp 114) 23 rfl w2.heap.size 49 i0 (.agg #[.int .i64 0, .int .i64 0]) 2 16 Try.underlying23 hi hz0 hz1 hz2 rfl (by decide) _ kx (cells2 (L.take kx)) rfl O3.out ⟨wp.heap.size, 0, none⟩ 1 1 [.int .i64 f, .int .i64 t] rfl rfl (World.news_of_block hb3.out) one.out (by decide) (by unfold maxLen; omega) (by omega) hB3.out _ rfl ?_; intro gq cq w5 O2 G2 hg2 hl2)
            have O5 := Lib.hid (show Spans w5 w2.heap.size (.slice (some ⟨gq, 0, none⟩) (kx + 1) cq) (L.take (kx + 1)) by
              unfold Spans
              rw [take_snoc_lp hp'.out, cells2_snoc, List.length_append, htk.out]
              exact O2)
            have B5 := Lib.hid (show Below w2.heap.size w2 w5 from (Buf.then_ (Buf.then_ HC.out bp.out) (new_block (w := wp) (.cells #[.int .i64 f, .int .i64 t] 49))).grown G2 (by have := HC.out.size; have := bp.out.size; simp; omega) (fun b hb => (O3.out.lt b hb).1))
            clear O2 G2 hg2 hl2 O3 hb3 hB3 one j0 j1 bp OT HC
            go_roundw
            case rel => exact ⟨kx + 1, by omega, by go_num, O5, B5⟩
            case measure => simp [intOf]; omega
          · obtain ⟨k1', hk1⟩ : ∃ k1', k1' + 1 = kx := ⟨kx - 1, by omega⟩
            obtain ⟨x, gs, rfl, c3, xf, ksc⟩ := PRE.out k1' hk1
            have e1 : (kx : Int) - 1 = (k1' : Int) := by omega
            have d0 : decide ((0 : Int) < (kx : Int)) = true := decide_eq_true (by omega)
            have d1 : decide (f ≤ x) = false := decide_eq_false (by omega)
            have bk : (k1' : Int) < (kx : Int) := by omega
            replace hk1 := Lib.hid hk1
            go_wp2_with fail
            go_quiet (fail)
            go_upto_region 19 with fail
            clear d0 d1 c3 e1 bk xf
            obtain ⟨wp, hwp⟩ : ∃ wp, wp = wr.drewN nq := ⟨_, rfl⟩
            have bp := Lib.hid (show Below wr.heap.size wr wp by rw [hwp]; exact Buf.below_drewN (Below.refl _ _) _)
            have j0 : wp.cell? ⟨g, kx * 2, none⟩ = some (.int .i64 f) := by rw [hwp]; exact k0
            have j1 : wp.cell? ⟨g, kx * 2 + 1, none⟩ = some (.int .i64 t) := by rw [hwp]; exact k1
            rw [← hwp]
            clear hwp k0 k1 PRE
            have hb3 := Lib.hid (heap_alloc_new wp (.cells #[.int .i64 f, .int .i64 t] 49))
            have O3 := Lib.hid (own_below (own_below OT.out bp.out) (new_block (w := wp) (.cells #[.int .i64 f, .int .i64 t] 49)))
            unfold Spans at O3
            rw [htk.out] at O3
            have one : Hid (∀ u ∈ [Value.int .i64 f, .int .i64 t], u.oneCell' = true) := Lib.hid (by intro u hu; simp at hu; rcases hu with rfl | rfl <;> rfl)
            have hB3 := Lib.hid (show w2.heap.size ≤ (wp.alloc (.cells #[.int .i64 f, .int .i64 t] 49)).heap.size by have := HC.out.size; have := bp.out.size; simp; omega)
            go_wp2_with (at_builtin; refine wpList_append_lies _ rfl (.tmp 109) (.tmp 114) 23 rfl w2.heap.size 49 i0 (.agg #[.int .i64 0, .int .i64 0]) 2 16 Try.underlying23 hi hz0 hz1 hz2 rfl (by decide) _ kx (cells2 (L.take kx)) rfl O3.out ⟨wp.heap.size, 0, none⟩ 1 1 [.int .i64 f, .int .i64 t] rfl rfl (World.news_of_block hb3.out) one.out (by decide) (by unfold maxLen; omega) (by omega) hB3.out _ rfl ?_; intro gq cq w5 O2 G2 hg2 hl2)
            have O5 := Lib.hid (show Spans w5 w2.heap.size (.slice (some ⟨gq, 0, none⟩) (kx + 1) cq) (L.take (kx + 1)) by
              unfold Spans
              rw [take_snoc_lp hp'.out, cells2_snoc, List.length_append, htk.out]
              exact O2)
            have B5 := Lib.hid (show Below w2.heap.size w2 w5 from (Buf.then_ (Buf.then_ HC.out bp.out) (new_block (w := wp) (.cells #[.int .i64 f, .int .i64 t] 49))).grown G2 (by have := HC.out.size; have := bp.out.size; simp; omega) (fun b hb => (O3.out.lt b hb).1))
            clear O2 G2 hg2 hl2 O3 hb3 hB3 one j0 j1 bp OT HC
            go_roundw
            case rel => exact ⟨kx + 1, by omega, by go_num, O5, B5⟩
            case measure => simp [intOf]; omega
        · obtain rfl : kx = n := by omega
          have hL : L.take kx = L := List.take_of_length_le (by rw [← hn.out]; exact Nat.le_refl _)
          rw [hL] at OT
          go_wp2_with fail
          go_ret
          have := HB.out.size
          refine ⟨⟨_, rfl, own_mono (B := w2.heap.size) ?_ this⟩, Buf.then_ HB.out HC.out⟩
          rw [← hn.out]
          exact (show wr.ownsRow w2.heap.size 49 2 (.slice ta kx tc) kx (cells2 L) from by have h := OT.out; unfold Spans at h; rw [← hn.out] at h; exact h)

set_option maxHeartbeats 4000000 in
theorem refin_b (n lo hi : Int) (w : World) (h1 : lo ≤ n) (h2 : n ≤ hi) :
    Calls Try.prog 62 #[.int .i64 n, .int .i64 lo, .int .i64 hi] w fun e w' => e = .returned (.bool true) ∧ w' = w := by
  go_enter Try.func62, Try.ntmps62
  go_wp2
  go_ret
  exact ⟨rfl, rfl⟩
theorem near_yes {w : World} {B : Nat} {v : Value} {L : LP} (O : Spans w B v L) (hI : Inside L 0 64) (hC : Canon L) (h9 : L.length ≤ 200) :
    Calls Try.prog 63 #[v] w fun e w' => e = .returned (.bool true) ∧ Below w.heap.size w w' := by
  obtain ⟨sa, sc, rfl⟩ := own_len O
  obtain ⟨n, hn⟩ : ∃ n, n = L.length := ⟨_, rfl⟩
  have FS := Lib.hid (fun (j : Nat) (p : Int × Int) (hj : L[j]? = some p) => own_get O hj)
  rw [← hn] at h9 FS ⊢
  replace hn := Lib.hid hn
  have B0 := Lib.hid (Below.refl w.heap.size w)
  clear O
  go_enter Try.func63, Try.ntmps63
  go_wp2_with fail
  go_loopw [3] (fun i wr => ∃ k : Nat, k ≤ n ∧ i = .int .i64 k ∧ Hid (Below w.heap.size w wr)) (fun i _ => n - (intOf i).toNat)
  case atStart => exact ⟨0, Nat.zero_le _, rfl, B0⟩
  case round =>
    clear B0
    obtain ⟨k, hk, rfl, HB⟩ := hrel
    by_cases hlt : k < n
    · obtain ⟨⟨f, t⟩, hp⟩ : ∃ p, L[k]? = some p := ⟨L[k]'(by rw [← hn.out]; exact hlt), List.getElem?_eq_getElem _⟩
      obtain ⟨hz1_, hz2_, g, rfl, hg, hgB, q0, q1, _⟩ := FS.out _ _ hp
      have hin := hI _ (List.mem_of_getElem? hp)
      have k0 := (HB.out.cell (p := ⟨g, _, none⟩) hg).trans q0
      have k1 := (HB.out.cell (p := ⟨g, _, none⟩) hg).trans q1
      dsimp only at k0 k1 hin
      have b1 : (k : Int) < n := by omega
      have hp' := Lib.hid hp
      have ft := hC.at hp
      simp only at ft
      clear q0 q1 hp hz1_
      obtain ⟨i1, i2⟩ := hin
      have F1 := Lib.hid fun w' => refin_b f (-1152921504606846976) 1152921504606846976 w' (by omega) (by omega)
      have F2 := Lib.hid fun w' => refin_b t (-1152921504606846976) 1152921504606846976 w' (by omega) (by omega)
      go_wp2_with (go_at_call 62; first
        | (with_reducible refine (F1.out _).mono ?_; rintro e w2 ⟨rfl, rfl⟩)
        | (with_reducible refine (F2.out _).mono ?_; rintro e w2 ⟨rfl, rfl⟩))
      go_roundw
      case rel => exact ⟨k + 1, by omega, by go_num, HB⟩
      case measure => simp [intOf]; omega
    · go_wp2_with fail
      go_ret
      exact ⟨rfl, HB.out⟩
set_option maxHeartbeats 4000000 in
set_option maxRecDepth 100000 in
theorem reflength_any {w : World} {v : Value} {L : LP} (h : Its w v L) (hC : Canon L) (hI : Inside L 0 64) (h9 : L.length ≤ 200) :
    Calls Try.prog 36 #[v] w fun e w' => e = .returned (.tuple #[.int .i64 (lenL L), .bool true]) ∧ Below w.heap.size w w' := by
  have NC := Lib.hid (refnormal_canon h hC h9)
  obtain ⟨n, hn⟩ : ∃ n, n = L.length := ⟨_, rfl⟩
  rw [← hn] at h9
  replace hn := Lib.hid hn
  have L0 : lenL (L.take 0) = 0 := rfl
  have CC := Lib.hid hC
  have II := Lib.hid hI
  obtain ⟨tl, htl⟩ : ∃ tl, tl = lenL L := ⟨_, rfl⟩
  rw [← htl]
  replace htl := Lib.hid htl
  clear h hC hI
  go_enter Try.func36, Try.ntmps36
  go_wp2_with fail
  refine NC.out.mono ?_
  rintro e w1 ⟨⟨r, rfl, O⟩, hb1⟩
  have NE := Lib.hid (near_yes O II.out CC.out (by rw [← hn.out]; exact h9))
  obtain ⟨sa, sc, rfl⟩ := own_len O
  rw [← hn.out] at O NE ⊢
  have FS := Lib.hid (fun (j : Nat) (p : Int × Int) (hj : L[j]? = some p) => own_get (L := L) (n := n) O hj)
  have B1 := Lib.hid hb1
  clear O hb1 NC
  go_wp2_with fail
  refine NE.out.mono ?_
  rintro e w2 ⟨rfl, hb2⟩
  have B2 := Lib.hid hb2
  clear hb2 NE
  have B0 := Lib.hid (Below.refl w2.heap.size w2)
  have T0 : Hid ((0 : Int) = lenL (L.take 0)) := Lib.hid rfl
  go_wp2_with fail
  go_loopw [5, 6] (fun s i wr => ∃ (k : Nat) (x : Int), k ≤ n ∧ s = .int .i64 x ∧ i = .int .i64 k ∧ Hid (x = lenL (L.take k)) ∧ 0 ≤ x ∧ x ≤ 64 ∧ Hid (Below w2.heap.size w2 wr)) (fun _ i _ => n - (intOf i).toNat)
  case atStart => exact ⟨0, 0, Nat.zero_le _, rfl, rfl, T0, by omega, by omega, B0⟩
  case round =>
    clear B0 T0
    obtain ⟨k, x, hk, rfl, rfl, hx, x0, x9, HB⟩ := hrel
    by_cases hlt : k < n
    · obtain ⟨⟨f, t⟩, hp⟩ : ∃ p, L[k]? = some p := ⟨L[k]'(by rw [← hn.out]; exact hlt), List.getElem?_eq_getElem _⟩
      obtain ⟨hz1_, hz2_, g, rfl, hg, hgB, q0, q1, _⟩ := FS.out _ _ hp
      have hin := II.out _ (List.mem_of_getElem? hp)
      have hg2 : g < w2.heap.size := Nat.lt_of_lt_of_le hg B2.out.size
      have k0 := (HB.out.cell (p := ⟨g, _, none⟩) hg2).trans ((B2.out.cell (p := ⟨g, _, none⟩) hg).trans q0)
      have k1 := (HB.out.cell (p := ⟨g, _, none⟩) hg2).trans ((B2.out.cell (p := ⟨g, _, none⟩) hg).trans q1)
      have ft := CC.out.at hp
      dsimp only at k0 k1 hin ft
      have b1 : (k : Int) < n := by omega
      have hs := lenL_succ L k _ hp
      rw [← hx.out] at hs
      have hbd := lenL_bounds CC.out (show (0 : Int) ≤ 64 by decide) II.out (k + 1)
      rw [hs] at hbd
      simp only at hs hbd
      obtain ⟨y, hy⟩ : ∃ y, x + (t - f) = y := ⟨_, rfl⟩
      rw [hy] at hs hbd
      obtain ⟨i1, i2⟩ := hin
      obtain ⟨y0, y9⟩ := hbd
      have HS := Lib.hid hs.symm
      have w1_ : IntKind.i64.wrap (t - f) = t - f := IntWalk.i64_in _ (by omega)
      clear q0 q1 hp hz1_ hs hx
      go_wp2_with fail
      go_quiet (fail)
      go_wp2_with fail
      go_roundw
      case rel => exact ⟨k + 1, y, by omega, by first | rfl | exact congrArg _ hy, by go_num, HS, by omega, by omega, Lib.hid (by repeat (first | exact HB.out | refine Buf.below_drewN ?_ _))⟩
      case measure => simp [intOf]; omega
    · obtain rfl : k = n := by omega
      have hL : L.take k = L := List.take_of_length_le (by rw [← hn.out]; exact Nat.le_refl _)
      rw [hL, ← htl.out] at hx
      obtain rfl : x = tl := hx.out
      go_wp2_with fail
      go_ret2
      exact ⟨rfl, Buf.then_ (Buf.then_ B1.out B2.out) HB.out⟩
end Spn
end Go.Proofs.Ytfmhfhggogjbkaa

/- The reference's Normal of any list: mathematics of its insertions, copies of elements of two cells. -/
set_option linter.unusedVariables false
set_option linter.unusedSimpArgs false
namespace Go.Proofs.Ytfmhfhggogjbkaa
open Go.RowKit Dice
namespace Spn
open Sp (cells2 cells2_snoc cells2_get Spans own_kept own_below own_mono own_shape)
theorem cells2_take (L : LP) (k : Nat) : (cells2 L).take (k * 2) = cells2 (L.take k) := by
  induction L generalizing k with
  | nil => simp [cells2]
  | cons p l ih =>
    cases k with
    | zero => simp [cells2]
    | succ k =>
      have e : cells2 (p :: l) = [.int .i64 p.1, .int .i64 p.2] ++ cells2 l := by simp [cells2]
      have e2 : cells2 ((p :: l).take (k + 1)) = [.int .i64 p.1, .int .i64 p.2] ++ cells2 (l.take k) := by simp [cells2]
      rw [e, e2, ← ih, show (k + 1) * 2 = k * 2 + 1 + 1 by omega]
      rfl
theorem cells2_drop (L : LP) (k : Nat) : (cells2 L).drop (k * 2) = cells2 (L.drop k) := by
  induction L generalizing k with
  | nil => simp [cells2]
  | cons p l ih =>
    cases k with
    | zero => simp
    | succ k =>
      have e : cells2 (p :: l) = [.int .i64 p.1, .int .i64 p.2] ++ cells2 l := by simp [cells2]
      rw [e, List.drop_succ_cons, ← ih, show (k + 1) * 2 = k * 2 + 1 + 1 by omega]
      rfl
theorem cells2_set (L : LP) (k : Nat) (s : Int × Int) : ((cells2 L).set (k * 2) (.int .i64 s.1)).set (k * 2 + 1) (.int .i64 s.2) = cells2 (L.set k s) := by
  induction L generalizing k with
  | nil => simp [cells2]
  | cons p l ih =>
    have e : cells2 (p :: l) = [.int .i64 p.1, .int .i64 p.2] ++ cells2 l := by simp [cells2]
    cases k with
    | zero => rw [e]; simp [cells2]
    | succ k =>
      have e2 : cells2 ((p :: l).set (k + 1) s) = [.int .i64 p.1, .int .i64 p.2] ++ cells2 (l.set k s) := by simp [cells2]
      rw [e, e2, ← ih, show (k + 1) * 2 = 2 + k * 2 by omega]
      rw [List.set_append_right _ _ (by simp), List.set_append_right _ _ (by simp; omega)]
      congr 3 <;> simp <;> omega
/-- A list into which s is put at k. -/
def insL (S : LP) (s : Int × Int) (k : Nat) : LP := S.take k ++ s :: S.drop k
theorem insL_set (S : LP) (s : Int × Int) (k : Nat) (hk : k ≤ S.length) : ((S ++ [s]).take (k + 1) ++ S.drop k).set k s = insL S s k := by
  apply List.ext_getElem?
  intro j
  simp only [insL, List.getElem?_set, List.getElem?_append, List.getElem?_take, List.getElem?_drop, List.getElem?_cons, List.length_append, List.length_take, List.length_drop, List.length_cons, List.length_nil]
  have m1 : min (k + 1) (S.length + (0 + 1)) = k + 1 := by omega
  have m2 : min k S.length = k := by omega
  rw [m1, m2]
  by_cases h : k = j
  · subst h
    rw [if_pos rfl, if_pos (by omega), if_neg (by omega), if_pos (by omega)]
  · rw [if_neg h]
    by_cases h2 : j < k
    · rw [if_pos (by omega), if_pos (by omega), if_pos (by omega), if_pos (by omega), if_pos (by omega)]
    · rw [if_neg (by omega), if_neg (by omega), if_neg (by omega)]
      congr 1 <;> omega
theorem insL_len (S : LP) (s : Int × Int) (k : Nat) (hk : k ≤ S.length) : (insL S s k).length = S.length + 1 := by simp [insL]; omega
theorem insL_perm (S : LP) (s : Int × Int) (k : Nat) : (insL S s k).Perm (S ++ [s]) := by
  have h : (S.take k ++ s :: S.drop k).Perm (s :: (S.take k ++ S.drop k)) := List.perm_middle
  rw [List.take_append_drop] at h
  exact h.trans (List.perm_append_comm (l₁ := [s]) (l₂ := S))
/-- Of the elements ahead of i: those that are spans, sorted. -/
structure Ns (L : LP) (i : Nat) (S : LP) : Prop where
  has : ∀ x, hasB S x = hasB (L.take i) x
  srt : S.Pairwise (fun p q => p.1 ≤ q.1)
  one : ∀ p ∈ S, p.1 < p.2
  len : S.length ≤ i
theorem Ns.start (L : LP) : Ns L 0 [] := ⟨fun x => by simp [hasB], List.Pairwise.nil, fun p hp => (by cases hp), Nat.le_refl _⟩
theorem Ns.skip {L S : LP} {i : Nat} (h : Ns L i S) {s : Int × Int} (hs : L[i]? = some s) (hle : s.2 ≤ s.1) : Ns L (i + 1) S :=
  ⟨fun x => by rw [h.has, take_succ_has L i _ hs, decide_eq_false (by omega), Bool.or_false], h.srt, h.one, Nat.le_succ_of_le h.len⟩
theorem Ns.ins {L S : LP} {i : Nat} (h : Ns L i S) {s : Int × Int} (hs : L[i]? = some s) (hlt : s.1 < s.2) {k : Nat} (hk : k ≤ S.length) (h1 : ∀ (j : Nat) (q : Int × Int), k ≤ j → S[j]? = some q → s.1 < q.1) (h2 : ∀ (j : Nat) (q : Int × Int), j + 1 = k → S[j]? = some q → q.1 ≤ s.1) : Ns L (i + 1) (insL S s k) := by
  have hp := insL_perm S s k
  refine ⟨fun x => ?_, ?_, fun p hpm => ?_, by rw [insL_len S s k hk]; have := h.len; omega⟩
  · rw [hasB_perm hp x, hasB_append, h.has, take_succ_has L i _ hs]
    simp [hasB]
  · have hsrt := h.srt
    have e := List.take_append_drop k S
    rw [← e, List.pairwise_append] at hsrt
    obtain ⟨p1, p2, p3⟩ := hsrt
    have d1 : ∀ q ∈ S.drop k, s.1 < q.1 := fun q hq => by
      obtain ⟨j, hj⟩ := List.mem_iff_getElem?.1 hq
      rw [List.getElem?_drop] at hj
      exact h1 (k + j) q (by omega) hj
    have d2 : ∀ q ∈ S.take k, q.1 ≤ s.1 := fun q hq => by
      rcases Nat.eq_zero_or_pos k with rfl | hk0
      · simp at hq
      · have hl : k - 1 < S.length := by omega
        have hlast := h2 (k - 1) S[k - 1] (by omega) (List.getElem?_eq_getElem hl)
        obtain ⟨j, hj, rfl⟩ := List.mem_iff_getElem.1 hq
        rw [List.getElem_take]
        simp at hj
        rcases Nat.lt_or_ge j (k - 1) with c | c
        · have := List.pairwise_iff_getElem.1 h.srt j (k - 1) (by omega) hl c
          omega
        · have : j = k - 1 := by omega
          subst this; exact hlast
    unfold insL
    rw [List.pairwise_append]
    refine ⟨p1, List.pairwise_cons.2 ⟨fun q hq => by have := d1 q hq; omega, p2⟩, fun a ha b hb => ?_⟩
    rcases List.mem_cons.1 hb with rfl | hb
    · exact d2 a ha
    · exact p3 a ha b hb
  · rcases List.mem_append.1 (hp.mem_iff.1 hpm) with hm | hm
    · exact h.one p hm
    · simp at hm; subst hm; exact hlt
theorem Ns.at {L S : LP} {i : Nat} (h : Ns L i S) : ∀ (a b : Nat) (p q : Int × Int), a < b → S[a]? = some p → S[b]? = some q → p.1 ≤ q.1 := by
  intro a b p q hab hp hq
  obtain ⟨ha, rfl⟩ := List.getElem?_eq_some_iff.1 hp
  obtain ⟨hb, rfl⟩ := List.getElem?_eq_some_iff.1 hq
  exact List.pairwise_iff_getElem.1 h.srt a b ha hb hab
/-- The memory of Normal's second list. -/
structure Ms (S : LP) (k : Nat) (N : LP) : Prop where
  is : Is N (hasB (S.take k))
  len : N.length ≤ k
  le : ∀ f, Le (S.take k) f → Le N f
theorem Ms.start (S : LP) : Ms S 0 [] := ⟨Is.nil (by simp [hasB]), Nat.le_refl _, fun f _ => Le.nil f⟩
theorem Ms.add {L S N : LP} {i k : Nat} (h : Ms S k N) (hS : Ns L i S) {s : Int × Int} (hs : S[k]? = some s) : Ms S (k + 1) (addL N s) := by
  have hle := h.le s.1 (le_sorted hS.at hs)
  have A3 := addL_spec h.is.canon (s := s) hle
  exact ⟨(h.is.add (s := s) hle).congr fun x => (take_succ_has S k _ hs x).symm, by have := A3.2.2.2; have := h.len; omega, fun f' hf => le_take_succ hs A3.2.2.1 f' hf⟩
section
variable {P : Program}
theorem run_copy_rowk (w : World) (dT sT ty elem : TypeId) (g o dLen dCap : Nat) (a : Addr) (sLen sCap : Nat) (cur : Array Value) (t : TypeId) (cs : List Value) (k : Nat)
    (hu : P.underlying dT = some (.slice elem)) (hs : (P.info? elem).map (·.size) = some k)
    (hg : w.heap[g]? = some (.cells cur t (0, 0))) (hn : cs.length = Nat.min sLen dLen * k)
    (hsrc : ∀ j v, cs[j]? = some v → w.cell? (a.add j) = some v) (hfit : o + cs.length ≤ cur.size) (h1 : ∀ v ∈ cs, v.oneCell' = true) :
    (Builtin.copy_ #[dT, sT] ty #[.slice (some ⟨g, o, none⟩) dLen dCap, .slice (some a) sLen sCap]).run P w =
      .ok (goInt (Nat.min sLen dLen)) (w.setRow g (cur.toList.take o ++ cs ++ cur.toList.drop (o + cs.length)).toArray) := by
  have hl := run_loadCells_list (P := P) w a cs hsrc
  have hst := run_storeCells_at P g o t cs 0 cur w hg (by simpa using hfit) h1
  cases hq : P.info? elem with
  | none => simp [hq] at hs
  | some i =>
    have hi : i.size = k := by simpa [hq] using hs
    have hn' : Nat.min sLen dLen * k = cs.length := hn.symm
    simp only [Builtin.copy_, run_underlying hu, Builtin.lenOf, Builtin.firstCells, sizeOf, typeInfo, hq, hi]
    simp [hi, hn', hl, hst, hq, run_underlying hu, Builtin.lenOf, Builtin.firstCells, sizeOf, typeInfo]
theorem wp_copy_rowk {w : World} {o : Oper} {a : Act} {K : Act → World → Prop} {Q : Exit → Act → World → Prop} (d s : Operand) (dT sT : TypeId)
    (ho : o.op = .call { callee := .builtin .copy, args := #[d, s], argTypes := #[dT, sT] }) (elem : TypeId) (k : Nat) (hu : P.underlying dT = some (.slice elem)) (hsz : (P.info? elem).map (·.size) = some k)
    (g off dLen dCap : Nat) (ad : Addr) (sLen sCap : Nat) (hd : a.eval d = .slice (some ⟨g, off, none⟩) dLen dCap) (hs : a.eval s = .slice (some ad) sLen sCap)
    (cur : Array Value) (t : TypeId) (hg : w.heap[g]? = some (.cells cur t (0, 0))) (cs : List Value) (hn : cs.length = Nat.min sLen dLen * k)
    (hsrc : ∀ j v, cs[j]? = some v → w.cell? (ad.add j) = some v) (hfit : off + cs.length ≤ cur.size) (h1 : ∀ v ∈ cs, v.oneCell' = true)
    (h : K (a.put o.dst (goInt (Nat.min sLen dLen))) (w.setRow g (cur.toList.take off ++ cs ++ cur.toList.drop (off + cs.length)).toArray)) : o.wp P a w K Q := by
  have hr := run_copy_rowk (P := P) w dT sT o.type elem g off dLen dCap ad sLen sCap cur t cs k hu hsz hg hn hsrc hfit h1
  unfold Oper.wp execOp
  simp only [ho, resolve, invoke, builtin, Sem.run_bind, Sem.run_pure, Result.andThen_ok, List.map_toArray, List.map_cons, List.map_nil, hd, hs, hr]
  exact h
end
/-- The elements from k on move up by one. -/
theorem own_move {w : World} {B g m c : Nat} {S : LP} {s : Int × Int} (hm : m = S.length) (h : w.ownsRow B 49 2 (.slice (some ⟨g, 0, none⟩) (m + 1) c) (m + 1) (cells2 (S ++ [s]))) (k : Nat) (hk : k ≤ m) :
    ∃ cur : Array Value, w.heap[g]? = some (.cells cur 49 (0, 0)) ∧ (k + 1) * 2 + (cells2 (S.drop k)).length ≤ cur.size ∧ (cells2 (S.drop k)).length = (m - k) * 2 ∧
      (∀ j v, (cells2 (S.drop k))[j]? = some v → w.cell? ((⟨g, k * 2, none⟩ : Addr).add j) = some v) ∧
      (w.setRow g (cur.toList.take ((k + 1) * 2) ++ cells2 (S.drop k) ++ cur.toList.drop ((k + 1) * 2 + (cells2 (S.drop k)).length)).toArray).ownsRow B 49 2 (.slice (some ⟨g, 0, none⟩) (m + 1) c) (m + 1) (cells2 ((S ++ [s]).take (k + 1) ++ S.drop k)) := by
  rcases h.2 with ⟨e, _⟩ | ⟨g', c', cur, e, hB, hg, hc, hmx, hsz, ht⟩
  · cases e
  · cases e
    have hl : (cells2 (S.drop k)).length = (m - k) * 2 := by rw [cells2_length]; simp; omega
    have hfit : (k + 1) * 2 + (cells2 (S.drop k)).length ≤ cur.size := by rw [hl, hsz]; omega
    refine ⟨cur, hg, hfit, hl, fun j v hv => ?_, ?_, .inr ⟨g, c, _, rfl, hB, setRow_heap w g cur _ _ _ hg, hc, hmx, ?_, ?_⟩⟩
    · have hj := (List.getElem?_eq_some_iff.1 hv).1
      have ha : (⟨g, k * 2, none⟩ : Addr).add j = ⟨g, k * 2 + j, none⟩ := by unfold Addr.add; split <;> simp_all
      rw [ha, h.cellAt _ (by omega), ← hv, ← cells2_drop, List.getElem?_drop, cells2_append, List.getElem?_append_left (by rw [cells2_length]; omega)]
    · rw [cells2_length]; simp; omega
    · have hlen : cur.toList.length = c * 2 := by simpa using hsz
      simp only [List.size_toArray, List.length_append, List.length_take, List.length_drop, hl, hlen]
      omega
    · simp only [List.toList_toArray]
      have e1 : cur.toList.take ((k + 1) * 2) = cells2 ((S ++ [s]).take (k + 1)) := by
        rw [← cells2_take, ← ht, List.take_take]; congr 1; omega
      rw [e1, ← cells2_append, List.take_append_of_le_length (by rw [cells2_length]; simp; omega)]
      apply List.take_of_length_le
      rw [cells2_length]; simp; omega
/-- An element is stored. -/
theorem own_put {w : World} {B g n c : Nat} {L : LP} (h : w.ownsRow B 49 2 (.slice (some ⟨g, 0, none⟩) n c) n (cells2 L)) (k : Nat) (s : Int × Int) :
    ((w.setCell ⟨g, k * 2, none⟩ (.int .i64 s.1)).setCell ⟨g, k * 2 + 1, none⟩ (.int .i64 s.2)).ownsRow B 49 2 (.slice (some ⟨g, 0, none⟩) n c) n (cells2 (L.set k s)) := by
  have h1 := (World.ownsRow.stored h (k * 2) (.int .i64 s.1)).1
  have h2 := (World.ownsRow.stored h1 (k * 2 + 1) (.int .i64 s.2)).1
  rw [cells2_set] at h2
  exact h2
end Spn
end Go.Proofs.Ytfmhfhggogjbkaa

/- The reference's Normal of any list. -/
set_option linter.unusedVariables false
set_option linter.unusedSimpArgs false
namespace Go.Proofs.Ytfmhfhggogjbkaa
open Go.RowKit Dice
namespace Spn
open Sp (cells2 cells2_snoc cells2_get Spans own_kept own_below own_mono own_shape)
set_option tactic.hygienic false in
set_option maxHeartbeats 4000000 in
set_option maxRecDepth 100000 in
theorem refnormal_any {w : World} {v : Value} {L : LP} (h : Its w v L) (h9 : L.length ≤ 200) :
    Calls Try.prog 23 #[v] w fun e w' => (∃ r N, e = .returned r ∧ Spans w' w.heap.size r N ∧ Is N (hasB L) ∧ N.length ≤ L.length) ∧ Below w.heap.size w w' := by
  obtain ⟨i0, hi, hz0, hz1, hz2⟩ := info_get infoS
  have hsz : (Try.prog.info? 49).map (·.size) = some 2 := by rw [hi]; simp [hz1]
  obtain ⟨ad, c, rfl, hc, hf⟩ := its_form h
  obtain ⟨n, hn⟩ : ∃ n, n = L.length := ⟨_, rfl⟩
  rw [← hn] at hc h9 ⊢
  replace hn := Lib.hid hn
  have F := Lib.hid hf
  have W0 := Lib.hid (Below.refl w.heap.size w)
  have O0 : Hid (Spans w w.heap.size (.slice none 0 0) []) := Lib.hid (World.ownsRow_nil _ _ _ _)
  have N0 := Lib.hid (Ns.start L)
  clear h hf
  go_enter Try.func23, Try.ntmps23
  go_wp2_with fail
  go_loopw [3, 4] (fun s i wr => ∃ (kx : Nat) (S : LP), kx ≤ n ∧ i = .int .i64 kx ∧ Hid (Spans wr w.heap.size s S) ∧ Hid (Ns L kx S) ∧ Hid (Below w.heap.size w wr)) (fun _ i _ => n - (intOf i).toNat)
  case atStart => exact ⟨0, [], Nat.zero_le _, rfl, O0, N0, W0⟩
  case round =>
    clear W0 O0 N0
    obtain ⟨kx, S, hk, rfl, O, HN, HB⟩ := hrel
    obtain ⟨sa, sc, rfl⟩ := own_len O.out
    obtain ⟨m, hm⟩ : ∃ m, m = S.length := ⟨_, rfl⟩
    have hmk : m ≤ kx := by rw [hm]; exact HN.out.len
    unfold Spans at O
    rw [← hm] at O ⊢
    replace hm := Lib.hid hm
    by_cases hlt : kx < n
    · obtain ⟨⟨f, t⟩, hp⟩ : ∃ p, L[kx]? = some p := ⟨L[kx]'(by rw [← hn.out]; exact hlt), List.getElem?_eq_getElem _⟩
      obtain ⟨g, rfl, hg, q0, q1⟩ := F.out kx _ hp
      have k0 := (HB.out.cell (p := ⟨g, _, none⟩) hg).trans q0
      have k1 := (HB.out.cell (p := ⟨g, _, none⟩) hg).trans q1
      dsimp only at k0 k1
      have b1 : (kx : Int) < n := by omega
      have hp' := Lib.hid hp
      clear q0 q1 hp
      by_cases ft : f < t
      · have dft : decide (t ≤ f) = false := decide_eq_false (by omega)
        go_wp2_with fail
        go_quiet (fail)
        go_wp2_with fail
        clear dft
        obtain ⟨wo, hwo⟩ : ∃ wo, wo = wr := ⟨_, rfl⟩
        subst hwo
        go_loopw [5] (fun v5 wr => ∃ kp : Nat, kp ≤ m ∧ v5 = .int .i64 kp ∧ Hid (∀ (j : Nat) (q : Int × Int), kp ≤ j → S[j]? = some q → f < q.1) ∧ Hid (Below wo.heap.size wo wr)) (fun v5 _ => (intOf v5).toNat)
        case atStart => exact ⟨m, Nat.le_refl _, rfl, Lib.hid (fun j q hj hq => by have := (List.getElem?_eq_some_iff.1 hq).1; have := hm.out; omega), Lib.hid (by repeat (first | exact Below.refl _ _ | refine Buf.below_drewN ?_ _))⟩
        case round =>
          obtain ⟨kp, hkm, rfl, HG, hb1⟩ := hrel
          have kk0 := (hb1.out.cell (p := ⟨g, _, none⟩) (World.block_lt_of_cell? _ _ k0)).trans k0
          have kk1 := (hb1.out.cell (p := ⟨g, _, none⟩) (World.block_lt_of_cell? _ _ k1)).trans k1
          rcases Nat.eq_zero_or_pos kp with hk0 | hk0
          · have HE : Hid (∀ (j : Nat) (q : Int × Int), j + 1 = kp → S[j]? = some q → q.1 ≤ f) := Lib.hid (fun j q hj => by omega)
            have d0 : decide ((0 : Int) < (kp : Int)) = false := decide_eq_false (by omega)
            have d0n : decide (0 < kp) = false := decide_eq_false (by omega)
            replace hk0 := Lib.hid hk0
            go_wp2_with fail
            go_quiet (fail)
            go_upto_region 9 with fail
            clear d0 d0n
            obtain ⟨wp, hwp⟩ : ∃ wp, wp = wr.drewN nq := ⟨_, rfl⟩
            have bp := Lib.hid (show Below wo.heap.size wo wp by rw [hwp]; exact Buf.below_drewN hb1.out _)
            have j0 : wp.cell? ⟨g, kx * 2, none⟩ = some (.int .i64 f) := by rw [hwp]; exact kk0
            have j1 : wp.cell? ⟨g, kx * 2 + 1, none⟩ = some (.int .i64 t) := by rw [hwp]; exact kk1
            rw [← hwp]
            clear hwp kk0 kk1 k0 k1 hb1
            have hb3 := Lib.hid (heap_alloc_new wp (.cells #[.int .i64 f, .int .i64 t] 49))
            have O3 := Lib.hid (own_below (own_below O.out bp.out) (new_block (w := wp) (.cells #[.int .i64 f, .int .i64 t] 49)))
            have one : Hid (∀ u ∈ [Value.int .i64 f, .int .i64 t], u.oneCell' = true) := Lib.hid (by intro u hu; simp at hu; rcases hu with rfl | rfl <;> rfl)
            have hB3 := Lib.hid (show w.heap.size ≤ (wp.alloc (.cells #[.int .i64 f, .int .i64 t] 49)).heap.size by have := HB.out.size; have := bp.out.size; simp; omega)
            go_upto_region 10 with (at_builtin; refine wpList_append_lies _ rfl (.tmp 46) (.tmp 51) 23 rfl w.heap.size 49 i0 (.agg #[.int .i64 0, .int .i64 0]) 2 16 Try.underlying23 hi hz0 hz1 hz2 rfl (by decide) _ m (cells2 S) rfl O3.out ⟨wp.heap.size, 0, none⟩ 1 1 [.int .i64 f, .int .i64 t] rfl rfl (World.news_of_block hb3.out) one.out (by decide) (by unfold maxLen; omega) (by omega) hB3.out _ rfl ?_; intro gq cq w5 O2 G2 hg2 hl2)
            have O5 := Lib.hid (show w5.ownsRow w.heap.size 49 2 (.slice (some ⟨gq, 0, none⟩) (m + 1) cq) (m + 1) (cells2 (S ++ [(f, t)])) by rw [cells2_snoc]; exact O2)
            have B5 := Lib.hid (show Below w.heap.size w w5 from (Buf.then_ (Buf.then_ HB.out bp.out) (new_block (w := wp) (.cells #[.int .i64 f, .int .i64 t] 49))).grown G2 (by have := HB.out.size; have := bp.out.size; simp; omega) (fun b hb => (O3.out.lt b hb).1))
            obtain ⟨_, hgq5⟩ := O5.out.lt gq rfl
            have hgqB := (O5.out.lt gq rfl).1
            have cqk : m + 1 ≤ cq := by
              rcases O5.out.2 with ⟨e, _⟩ | ⟨_, _, _, e, _, _, hc', _⟩
              · cases e
              · cases e; exact hc'
            have wk : IntKind.i64.wrap ((kp : Int) + 1) = (kp : Int) + 1 := IntWalk.i64_in _ (by omega)
            have ck2 : (kp : Int) ≤ (cq : Int) := by omega
            have ck1 : (kp : Int) + 1 ≤ (cq : Int) := by omega
            have ck6 : ((kp + 1 : Nat) : Int) = (kp : Int) + 1 := by omega
            have ck3 : (kp : Int) ≤ (m : Int) + 1 := by omega
            have ck7 : (kp : Int) + 1 ≤ (m : Int) + 1 := by omega
            have g7 := Lib.hid (show w5.cell? ⟨g, kx * 2, none⟩ = some (.int .i64 f) ∧ w5.cell? ⟨g, kx * 2 + 1, none⟩ = some (.int .i64 t) ∧ g < w.heap.size from by
              obtain ⟨gx, ex, hgx, y0, y1⟩ := F.out kx _ hp'.out
              cases ex
              exact ⟨(B5.out.cell (p := ⟨g, _, none⟩) hgx).trans y0, (B5.out.cell (p := ⟨g, _, none⟩) hgx).trans y1, hgx⟩)
            have F_cell := Lib.hid (show w.cell? ⟨g, kx * 2, none⟩ = some (.int .i64 f) ∧ w.cell? ⟨g, kx * 2 + 1, none⟩ = some (.int .i64 t) from by
              obtain ⟨gx, ex, hgx, y0, y1⟩ := F.out kx _ hp'.out
              cases ex
              exact ⟨y0, y1⟩)
            have NI := Lib.hid (HN.out.ins hp'.out ft (by have := hm.out; omega) HG.out HE.out)
            clear O2 G2 hg2 hl2 O3 hb3 hB3 one j0 j1 bp HB O HN HG HE
            by_cases hkm2 : kp = m
            · have qc := Lib.hid (show kp + 1 ≤ cq by omega)
              have qd := Lib.hid (show kp + 1 ≤ m + 1 by omega)
              have qe := Lib.hid (show kp ≤ m + 1 by omega)
              have qf := Lib.hid (show ¬ (m + 1 < kp) by omega)
              replace hkm2 := Lib.hid hkm2
              refine wp_region_noPanic ?_
              refine wp_region_any (by kernel_rfl) ?_
              refine Inv.wpAny_inv (fun k => k == 7) [53, 54, 55, 56, 57, 58, 59] (fun w' => Below w5.heap.size w5 w') (fun _ w1 w2 => Below w1.heap.size w1 w2) (fun k => ([fun v_ w_ => v_ = .slice (some ⟨gq, 0, none⟩) (m + 1) cq, fun v_ w_ => v_ = .int .i64 (kp : Int), fun v_ w_ => v_ = .int .i64 ((kp : Int) + 1), fun v_ w_ => ∃ x l c, v_ = .slice x l c ∧ l = 0, fun v_ w_ => v_ = .slice (some ⟨gq, 0, none⟩) (m + 1) cq, fun v_ w_ => v_ = .int .i64 (kp : Int), fun v_ w_ => ∃ x l c, v_ = .slice x l c ∧ l = 1, fun v_ w_ => True] : List (Value → World → Prop)).getD k (fun _ _ => True)) _ (fun σ => by simp only [Inv.putAll, List.foldl_cons, List.foldl_nil, Act.put, List.setIfInBounds_toArray, List.set_cons_zero, List.set_cons_succ]; rfl) (by kernel_rfl) (by kernel_rfl) ?_ (Below.refl _ _).drew ?_ ?_ 1 #[true, true, true, true, true, true, true, false] (by kernel_rfl) (by kernel_rfl) ?_
              · intro j k v w1 w2 hjk hv hr
                rcases k with _ | k
                · exact hv
                rcases k with _ | k
                · exact hv
                rcases k with _ | k
                · exact hv
                rcases k with _ | k
                · exact hv
                rcases k with _ | k
                · exact hv
                rcases k with _ | k
                · exact hv
                rcases k with _ | k
                · exact hv
                rcases k with _ | k
                · exact hv
                · exact hv
              · intro k t hl hd
                rcases k with _ | k
                · exact absurd hl (by decide +kernel)
                rcases k with _ | k
                · exact absurd hl (by decide +kernel)
                rcases k with _ | k
                · exact absurd hl (by decide +kernel)
                rcases k with _ | k
                · exact absurd hl (by decide +kernel)
                rcases k with _ | k
                · exact absurd hl (by decide +kernel)
                rcases k with _ | k
                · exact absurd hl (by decide +kernel)
                rcases k with _ | k
                · exact absurd hl (by decide +kernel)
                rcases k with _ | k
                · exact absurd hl (by decide +kernel)
                · simp at hd
              · show Inv.Steps _ _ _ _ _ _ _ _ [0, 1, 2, 3, 4, 5, 6]
                refine Inv.Steps.go (by decide) (by rfl) (fun σ wx hw hd K hK => ?_) ?_
                · simp only [List.getElem_toArray, List.getElem_cons_zero, List.getElem_cons_succ, Act.put, List.setIfInBounds_toArray, List.set_cons_zero, List.set_cons_succ] at hK ⊢
                  go_simp
                  exact hK.out _ _ hw (Below.refl _ _) (rfl)
                refine Inv.Steps.go (by decide) (by rfl) (fun σ wx hw hd K hK => ?_) ?_
                · simp only [List.getElem_toArray, List.getElem_cons_zero, List.getElem_cons_succ, Act.put, List.setIfInBounds_toArray, List.set_cons_zero, List.set_cons_succ] at hK ⊢
                  go_simp
                  exact hK.out _ _ hw (Below.refl _ _) (rfl)
                refine Inv.Steps.go (by decide) (by rfl) (fun σ wx hw hd K hK => ?_) ?_
                · obtain e54 : (σ 54) = .int .i64 (kp : Int) := hd 1 (some 54) (by kernel_rfl) (by rfl)
                  simp only [List.getElem_toArray, List.getElem_cons_zero, List.getElem_cons_succ, Act.put, List.setIfInBounds_toArray, List.set_cons_zero, List.set_cons_succ, e54] at hK ⊢
                  go_simp
                  exact hK.out _ _ hw (Below.refl _ _) (rfl)
                refine Inv.Steps.go (by decide) (by rfl) (fun σ wx hw hd K hK => ?_) ?_
                · obtain e53 : (σ 53) = .slice (some ⟨gq, 0, none⟩) (m + 1) cq := hd 0 (some 53) (by kernel_rfl) (by rfl)
                  obtain e55 : (σ 55) = .int .i64 ((kp : Int) + 1) := hd 2 (some 55) (by kernel_rfl) (by rfl)
                  simp only [List.getElem_toArray, List.getElem_cons_zero, List.getElem_cons_succ, Act.put, List.setIfInBounds_toArray, List.set_cons_zero, List.set_cons_succ, e53, e55] at hK ⊢
                  go_simp
                  try simp only [if_pos qc.out, if_pos qd.out, if_pos qe.out, if_neg qf.out]
                  try go_simp
                  exact hK.out _ _ hw (Below.refl _ _) (⟨_, _, _, rfl, by have := hkm2.out; omega⟩)
                refine Inv.Steps.go (by decide) (by rfl) (fun σ wx hw hd K hK => ?_) ?_
                · simp only [List.getElem_toArray, List.getElem_cons_zero, List.getElem_cons_succ, Act.put, List.setIfInBounds_toArray, List.set_cons_zero, List.set_cons_succ] at hK ⊢
                  go_simp
                  exact hK.out _ _ hw (Below.refl _ _) (rfl)
                refine Inv.Steps.go (by decide) (by rfl) (fun σ wx hw hd K hK => ?_) ?_
                · simp only [List.getElem_toArray, List.getElem_cons_zero, List.getElem_cons_succ, Act.put, List.setIfInBounds_toArray, List.set_cons_zero, List.set_cons_succ] at hK ⊢
                  go_simp
                  exact hK.out _ _ hw (Below.refl _ _) (rfl)
                refine Inv.Steps.go (by decide) (by rfl) (fun σ wx hw hd K hK => ?_) ?_
                · obtain e57 : (σ 57) = .slice (some ⟨gq, 0, none⟩) (m + 1) cq := hd 4 (some 57) (by kernel_rfl) (by rfl)
                  obtain e58 : (σ 58) = .int .i64 (kp : Int) := hd 5 (some 58) (by kernel_rfl) (by rfl)
                  simp only [List.getElem_toArray, List.getElem_cons_zero, List.getElem_cons_succ, Act.put, List.setIfInBounds_toArray, List.set_cons_zero, List.set_cons_succ, e57, e58] at hK ⊢
                  go_simp
                  try simp only [if_pos qc.out, if_pos qd.out, if_pos qe.out, if_neg qf.out]
                  try go_simp
                  exact hK.out _ _ hw (Below.refl _ _) (⟨_, _, _, rfl, by have := hkm2.out; omega⟩)
                exact Inv.Steps.nil
              · intro σ wx hw hd
                obtain ⟨x56, l56, c56, e56, rfl⟩ : ∃ x l c, (σ 56) = .slice x l c ∧ l = 0 := hd 3 (some 56) (by rfl) (by rfl)
                obtain ⟨x59, l59, c59, e59, rfl⟩ : ∃ x l c, (σ 59) = .slice x l c ∧ l = 1 := hd 6 (some 59) (by rfl) (by rfl)
                simp only [e56, e59]
                refine Inv.one (i := 7) (by decide) (by kernel_rfl) (by rfl) (fun K hK => ?_)
                simp only [List.getElem_toArray, List.getElem_cons_zero, List.getElem_cons_succ, Act.put, List.setIfInBounds_toArray, List.set_cons_zero, List.set_cons_succ] at hK ⊢
                refine wp_copy_none (.tmp 56) (.tmp 59) 23 23 rfl 49 2 Try.underlying23 hsz x56 x59 c56 1 c59 (by simp [Act.eval]) (by simp [Act.eval]) ?_
                refine hK.out _ _ ?_
                clear hK K hd
                refine Inv.done (by kernel_rfl) (NoPanic.normal ?_)
                have O6 : Hid (wx.ownsRow w.heap.size 49 2 (.slice (some ⟨gq, 0, none⟩) (m + 1) cq) (m + 1) (cells2 ((S ++ [(f, t)]).take (kp + 1) ++ S.drop kp))) := Lib.hid (by rw [hkm2.out, List.take_of_length_le (by simp; have := hm.out; omega), List.drop_of_length_le (by have := hm.out; omega), List.append_nil]; exact own_below O5.out hw)
                have B6 := Lib.hid (Buf.then_ B5.out hw)
                generalize wx = w6 at *
                generalize σ 53 = v53
                generalize σ 54 = v54
                generalize σ 55 = v55
                generalize σ 57 = v57
                generalize σ 58 = v58
                have hlen6 : (((S ++ [(f, t)]).take (kp + 1) ++ S.drop kp)).length = m + 1 := by simp; have := hm.out; omega
                obtain ⟨p6, hp6⟩ : ∃ p, (((S ++ [(f, t)]).take (kp + 1) ++ S.drop kp))[kp]? = some p := ⟨_, List.getElem?_eq_getElem (by omega)⟩
                obtain ⟨hz9, _, gq', egq, hgq6, _, s0, s1, s2, s3⟩ := own_get (L := (S ++ [(f, t)]).take (kp + 1) ++ S.drop kp) (n := m + 1) (show Spans w6 w.heap.size (.slice (some ⟨gq, 0, none⟩) (m + 1) cq) _ from by unfold Spans; rw [hlen6]; exact O6.out) hp6
                cases egq
                clear hz9 hp6 hlen6
                have y0 := (B6.out.cell (p := ⟨g, kx * 2, none⟩) g7.out.2.2).trans ((F_cell.out).1)
                have y1 := (B6.out.cell (p := ⟨g, kx * 2 + 1, none⟩) g7.out.2.2).trans ((F_cell.out).2)
                have bk6 : (kp : Int) < (m : Int) + 1 := by omega
                have OX := Lib.hid (own_put O6.out kp (f, t))
                rw [insL_set S (f, t) kp (by have := hm.out; omega)] at OX
                have BX := Lib.hid ((B6.out.setCell (p := ⟨gq, kp * 2, none⟩) hgqB (.int .i64 f)).setCell (p := ⟨gq, kp * 2 + 1, none⟩) hgqB (.int .i64 t))
                have hlX : Hid ((insL S (f, t) kp).length = m + 1) := Lib.hid (by rw [insL_len S _ kp (by have := hm.out; omega), ← hm.out])
                clear O6 B6 O5 B5
                go_wp2_with fail
                go_roundw
                case rel => exact ⟨kx + 1, insL S (f, t) kp, by omega, by go_num, Lib.hid (by unfold Spans; rw [hlX.out]; exact OX.out), NI, Lib.hid BX.out⟩
                case measure => simp [intOf]; omega
            · have qc := Lib.hid (show kp + 1 ≤ cq by omega)
              have qd := Lib.hid (show kp + 1 ≤ m + 1 by omega)
              have qe := Lib.hid (show kp ≤ m + 1 by omega)
              have qf := Lib.hid (show ¬ (m + 1 < kp) by omega)
              have qg := Lib.hid (show ¬ (cq = kp + 1) by omega)
              have qh := Lib.hid (show ¬ (cq = kp) by omega)
              refine wp_region_noPanic ?_
              refine wp_region_any (by kernel_rfl) ?_
              refine Inv.wpAny_inv (fun k => k == 7) [53, 54, 55, 56, 57, 58, 59] (fun w' => Below w5.heap.size w5 w') (fun _ w1 w2 => Below w1.heap.size w1 w2) (fun k => ([fun v_ w_ => v_ = .slice (some ⟨gq, 0, none⟩) (m + 1) cq, fun v_ w_ => v_ = .int .i64 (kp : Int), fun v_ w_ => v_ = .int .i64 ((kp : Int) + 1), fun v_ w_ => v_ = .slice (some ⟨gq, (kp + 1) * 2, none⟩) (m - kp) (cq - (kp + 1)), fun v_ w_ => v_ = .slice (some ⟨gq, 0, none⟩) (m + 1) cq, fun v_ w_ => v_ = .int .i64 (kp : Int), fun v_ w_ => v_ = .slice (some ⟨gq, kp * 2, none⟩) (m + 1 - kp) (cq - kp), fun v_ w_ => True] : List (Value → World → Prop)).getD k (fun _ _ => True)) _ (fun σ => by simp only [Inv.putAll, List.foldl_cons, List.foldl_nil, Act.put, List.setIfInBounds_toArray, List.set_cons_zero, List.set_cons_succ]; rfl) (by kernel_rfl) (by kernel_rfl) ?_ (Below.refl _ _).drew ?_ ?_ 1 #[true, true, true, true, true, true, true, false] (by kernel_rfl) (by kernel_rfl) ?_
              · intro j k v w1 w2 hjk hv hr
                rcases k with _ | k
                · exact hv
                rcases k with _ | k
                · exact hv
                rcases k with _ | k
                · exact hv
                rcases k with _ | k
                · exact hv
                rcases k with _ | k
                · exact hv
                rcases k with _ | k
                · exact hv
                rcases k with _ | k
                · exact hv
                rcases k with _ | k
                · exact hv
                · exact hv
              · intro k t hl hd
                rcases k with _ | k
                · exact absurd hl (by decide +kernel)
                rcases k with _ | k
                · exact absurd hl (by decide +kernel)
                rcases k with _ | k
                · exact absurd hl (by decide +kernel)
                rcases k with _ | k
                · exact absurd hl (by decide +kernel)
                rcases k with _ | k
                · exact absurd hl (by decide +kernel)
                rcases k with _ | k
                · exact absurd hl (by decide +kernel)
                rcases k with _ | k
                · exact absurd hl (by decide +kernel)
                rcases k with _ | k
                · exact absurd hl (by decide +kernel)
                · simp at hd
              · show Inv.Steps _ _ _ _ _ _ _ _ [0, 1, 2, 3, 4, 5, 6]
                refine Inv.Steps.go (by decide) (by rfl) (fun σ wx hw hd K hK => ?_) ?_
                · simp only [List.getElem_toArray, List.getElem_cons_zero, List.getElem_cons_succ, Act.put, List.setIfInBounds_toArray, List.set_cons_zero, List.set_cons_succ] at hK ⊢
                  go_simp
                  exact hK.out _ _ hw (Below.refl _ _) (rfl)
                refine Inv.Steps.go (by decide) (by rfl) (fun σ wx hw hd K hK => ?_) ?_
                · simp only [List.getElem_toArray, List.getElem_cons_zero, List.getElem_cons_succ, Act.put, List.setIfInBounds_toArray, List.set_cons_zero, List.set_cons_succ] at hK ⊢
                  go_simp
                  exact hK.out _ _ hw (Below.refl _ _) (rfl)
                refine Inv.Steps.go (by decide) (by rfl) (fun σ wx hw hd K hK => ?_) ?_
                · obtain e54 : (σ 54) = .int .i64 (kp : Int) := hd 1 (some 54) (by kernel_rfl) (by rfl)
                  simp only [List.getElem_toArray, List.getElem_cons_zero, List.getElem_cons_succ, Act.put, List.setIfInBounds_toArray, List.set_cons_zero, List.set_cons_succ, e54] at hK ⊢
                  go_simp
                  exact hK.out _ _ hw (Below.refl _ _) (rfl)
                refine Inv.Steps.go (by decide) (by rfl) (fun σ wx hw hd K hK => ?_) ?_
                · obtain e53 : (σ 53) = .slice (some ⟨gq, 0, none⟩) (m + 1) cq := hd 0 (some 53) (by kernel_rfl) (by rfl)
                  obtain e55 : (σ 55) = .int .i64 ((kp : Int) + 1) := hd 2 (some 55) (by kernel_rfl) (by rfl)
                  simp only [List.getElem_toArray, List.getElem_cons_zero, List.getElem_cons_succ, Act.put, List.setIfInBounds_toArray, List.set_cons_zero, List.set_cons_succ, e53, e55] at hK ⊢
                  go_simp
                  try simp only [if_pos qc.out, if_pos qd.out, if_pos qe.out, if_neg qf.out]
                  try go_simp
                  try simp only [if_neg qg.out, if_neg qh.out]
                  exact hK.out _ _ hw (Below.refl _ _) (rfl)
                refine Inv.Steps.go (by decide) (by rfl) (fun σ wx hw hd K hK => ?_) ?_
                · simp only [List.getElem_toArray, List.getElem_cons_zero, List.getElem_cons_succ, Act.put, List.setIfInBounds_toArray, List.set_cons_zero, List.set_cons_succ] at hK ⊢
                  go_simp
                  exact hK.out _ _ hw (Below.refl _ _) (rfl)
                refine Inv.Steps.go (by decide) (by rfl) (fun σ wx hw hd K hK => ?_) ?_
                · simp only [List.getElem_toArray, List.getElem_cons_zero, List.getElem_cons_succ, Act.put, List.setIfInBounds_toArray, List.set_cons_zero, List.set_cons_succ] at hK ⊢
                  go_simp
                  exact hK.out _ _ hw (Below.refl _ _) (rfl)
                refine Inv.Steps.go (by decide) (by rfl) (fun σ wx hw hd K hK => ?_) ?_
                · obtain e57 : (σ 57) = .slice (some ⟨gq, 0, none⟩) (m + 1) cq := hd 4 (some 57) (by kernel_rfl) (by rfl)
                  obtain e58 : (σ 58) = .int .i64 (kp : Int) := hd 5 (some 58) (by kernel_rfl) (by rfl)
                  simp only [List.getElem_toArray, List.getElem_cons_zero, List.getElem_cons_succ, Act.put, List.setIfInBounds_toArray, List.set_cons_zero, List.set_cons_succ, e57, e58] at hK ⊢
                  go_simp
                  try simp only [if_pos qc.out, if_pos qd.out, if_pos qe.out, if_neg qf.out]
                  try go_simp
                  try simp only [if_neg qg.out, if_neg qh.out]
                  exact hK.out _ _ hw (Below.refl _ _) (rfl)
                exact Inv.Steps.nil
              · intro σ wx hw hd
                obtain e56 : (σ 56) = .slice (some ⟨gq, (kp + 1) * 2, none⟩) (m - kp) (cq - (kp + 1)) := hd 3 (some 56) (by rfl) (by rfl)
                obtain e59 : (σ 59) = .slice (some ⟨gq, kp * 2, none⟩) (m + 1 - kp) (cq - kp) := hd 6 (some 59) (by rfl) (by rfl)
                simp only [e56, e59]
                refine Inv.one (i := 7) (by decide) (by kernel_rfl) (by rfl) (fun K hK => ?_)
                simp only [List.getElem_toArray, List.getElem_cons_zero, List.getElem_cons_succ, Act.put, List.setIfInBounds_toArray, List.set_cons_zero, List.set_cons_succ] at hK ⊢
                obtain ⟨cur, hcur, cfit, clen, csrc, cown⟩ := own_move hm.out (own_below O5.out hw) kp hkm
                refine wp_copy_rowk (.tmp 56) (.tmp 59) 23 23 rfl 49 2 Try.underlying23 hsz gq ((kp + 1) * 2) (m - kp) (cq - (kp + 1)) ⟨gq, kp * 2, none⟩ (m + 1 - kp) (cq - kp) (by simp [Act.eval]) (by simp [Act.eval]) cur _ hcur (cells2 (S.drop kp)) (by rw [clen]; congr 1; show m - kp = min (m + 1 - kp) (m - kp); omega) csrc cfit (cells2_one _) ?_
                refine hK.out _ _ ?_
                clear hK K hd
                refine Inv.done (by kernel_rfl) (NoPanic.normal ?_)
                have O6 := Lib.hid cown
                have B6 := Lib.hid (Mid.below_row (Buf.then_ B5.out hw) gq (cur.toList.take ((kp + 1) * 2) ++ cells2 (S.drop kp) ++ cur.toList.drop ((kp + 1) * 2 + (cells2 (S.drop kp)).length)).toArray hgqB)
                generalize (wx.setRow gq (cur.toList.take ((kp + 1) * 2) ++ cells2 (S.drop kp) ++ cur.toList.drop ((kp + 1) * 2 + (cells2 (S.drop kp)).length)).toArray) = w6 at *
                clear hcur cfit clen csrc cown hw
                generalize σ 53 = v53
                generalize σ 54 = v54
                generalize σ 55 = v55
                generalize σ 57 = v57
                generalize σ 58 = v58
                have hlen6 : (((S ++ [(f, t)]).take (kp + 1) ++ S.drop kp)).length = m + 1 := by simp; have := hm.out; omega
                obtain ⟨p6, hp6⟩ : ∃ p, (((S ++ [(f, t)]).take (kp + 1) ++ S.drop kp))[kp]? = some p := ⟨_, List.getElem?_eq_getElem (by omega)⟩
                obtain ⟨hz9, _, gq', egq, hgq6, _, s0, s1, s2, s3⟩ := own_get (L := (S ++ [(f, t)]).take (kp + 1) ++ S.drop kp) (n := m + 1) (show Spans w6 w.heap.size (.slice (some ⟨gq, 0, none⟩) (m + 1) cq) _ from by unfold Spans; rw [hlen6]; exact O6.out) hp6
                cases egq
                clear hz9 hp6 hlen6
                have y0 := (B6.out.cell (p := ⟨g, kx * 2, none⟩) g7.out.2.2).trans ((F_cell.out).1)
                have y1 := (B6.out.cell (p := ⟨g, kx * 2 + 1, none⟩) g7.out.2.2).trans ((F_cell.out).2)
                have bk6 : (kp : Int) < (m : Int) + 1 := by omega
                have OX := Lib.hid (own_put O6.out kp (f, t))
                rw [insL_set S (f, t) kp (by have := hm.out; omega)] at OX
                have BX := Lib.hid ((B6.out.setCell (p := ⟨gq, kp * 2, none⟩) hgqB (.int .i64 f)).setCell (p := ⟨gq, kp * 2 + 1, none⟩) hgqB (.int .i64 t))
                have hlX : Hid ((insL S (f, t) kp).length = m + 1) := Lib.hid (by rw [insL_len S _ kp (by have := hm.out; omega), ← hm.out])
                clear O6 B6 O5 B5
                go_wp2_with fail
                go_roundw
                case rel => exact ⟨kx + 1, insL S (f, t) kp, by omega, by go_num, Lib.hid (by unfold Spans; rw [hlX.out]; exact OX.out), NI, Lib.hid BX.out⟩
                case measure => simp [intOf]; omega
          · obtain ⟨k1', hk1⟩ : ∃ k1', k1' + 1 = kp := ⟨kp - 1, by omega⟩
            obtain ⟨⟨x, y⟩, hx⟩ : ∃ p, S[k1']? = some p := ⟨S[k1']'(by have := hm.out; omega), List.getElem?_eq_getElem _⟩
            obtain ⟨hx1, msc, gs, hsa, hgs, _, c3, _⟩ := own_get (L := S) (n := m) (show Spans wo w.heap.size (.slice sa m sc) S from by unfold Spans; rw [← hm.out]; exact O.out) hx
            clear hx1
            subst hsa
            have kk3 := (hb1.out.cell (p := ⟨gs, _, none⟩) hgs).trans c3
            dsimp only at kk3
            have e1 : (kp : Int) - 1 = (k1' : Int) := by omega
            have bk : (k1' : Int) < (m : Int) := by omega
            have d0 : decide ((0 : Int) < (kp : Int)) = true := decide_eq_true (by omega)
            by_cases fx : f < x
            · have d1 : decide (f < x) = true := decide_eq_true fx
              have HG2 : Hid (∀ (j : Nat) (q : Int × Int), k1' ≤ j → S[j]? = some q → f < q.1) := Lib.hid (fun j q hj hq => by
                rcases Nat.lt_or_ge j kp with c | c
                · have : j = k1' := by omega
                  subst this; rw [hx] at hq; cases hq; exact fx
                · exact HG.out j q c hq)
              replace hk1 := Lib.hid hk1
              clear hx c3 HG
              go_wp2_with fail
              go_quiet (fail)
              go_wp2_with fail
              go_roundw
              case rel => exact ⟨k1', by have := hk1.out; omega, by go_num, HG2, Lib.hid (by repeat (first | exact hb1.out | refine Buf.below_drewN ?_ _))⟩
              case measure => simp [intOf]; have := hk1.out; omega
            · have d1 : decide (f < x) = false := decide_eq_false fx
              have HE : Hid (∀ (j : Nat) (q : Int × Int), j + 1 = kp → S[j]? = some q → q.1 ≤ f) := Lib.hid (fun j q hj hq => by
                have : j = k1' := by omega
                subst this; rw [hx] at hq; cases hq; simp only; omega)
              replace hk1 := Lib.hid hk1
              clear hx c3
              go_wp2_with fail
              go_quiet (fail)
              go_upto_region 9 with fail
              clear d0 d1 kk3 e1 bk fx
              obtain ⟨wp, hwp⟩ : ∃ wp, wp = wr.drewN nq := ⟨_, rfl⟩
              have bp := Lib.hid (show Below wo.heap.size wo wp by rw [hwp]; exact Buf.below_drewN hb1.out _)
              have j0 : wp.cell? ⟨g, kx * 2, none⟩ = some (.int .i64 f) := by rw [hwp]; exact kk0
              have j1 : wp.cell? ⟨g, kx * 2 + 1, none⟩ = some (.int .i64 t) := by rw [hwp]; exact kk1
              rw [← hwp]
              clear hwp kk0 kk1 k0 k1 hb1
              have hb3 := Lib.hid (heap_alloc_new wp (.cells #[.int .i64 f, .int .i64 t] 49))
              have O3 := Lib.hid (own_below (own_below O.out bp.out) (new_block (w := wp) (.cells #[.int .i64 f, .int .i64 t] 49)))
              have one : Hid (∀ u ∈ [Value.int .i64 f, .int .i64 t], u.oneCell' = true) := Lib.hid (by intro u hu; simp at hu; rcases hu with rfl | rfl <;> rfl)
              have hB3 := Lib.hid (show w.heap.size ≤ (wp.alloc (.cells #[.int .i64 f, .int .i64 t] 49)).heap.size by have := HB.out.size; have := bp.out.size; simp; omega)
              go_upto_region 10 with (at_builtin; refine wpList_append_lies _ rfl (.tmp 46) (.tmp 51) 23 rfl w.heap.size 49 i0 (.agg #[.int .i64 0, .int .i64 0]) 2 16 Try.underlying23 hi hz0 hz1 hz2 rfl (by decide) _ m (cells2 S) rfl O3.out ⟨wp.heap.size, 0, none⟩ 1 1 [.int .i64 f, .int .i64 t] rfl rfl (World.news_of_block hb3.out) one.out (by decide) (by unfold maxLen; omega) (by omega) hB3.out _ rfl ?_; intro gq cq w5 O2 G2 hg2 hl2)
              have O5 := Lib.hid (show w5.ownsRow w.heap.size 49 2 (.slice (some ⟨gq, 0, none⟩) (m + 1) cq) (m + 1) (cells2 (S ++ [(f, t)])) by rw [cells2_snoc]; exact O2)
              have B5 := Lib.hid (show Below w.heap.size w w5 from (Buf.then_ (Buf.then_ HB.out bp.out) (new_block (w := wp) (.cells #[.int .i64 f, .int .i64 t] 49))).grown G2 (by have := HB.out.size; have := bp.out.size; simp; omega) (fun b hb => (O3.out.lt b hb).1))
              obtain ⟨_, hgq5⟩ := O5.out.lt gq rfl
              have hgqB := (O5.out.lt gq rfl).1
              have cqk : m + 1 ≤ cq := by
                rcases O5.out.2 with ⟨e, _⟩ | ⟨_, _, _, e, _, _, hc', _⟩
                · cases e
                · cases e; exact hc'
              have wk : IntKind.i64.wrap ((kp : Int) + 1) = (kp : Int) + 1 := IntWalk.i64_in _ (by omega)
              have ck2 : (kp : Int) ≤ (cq : Int) := by omega
              have ck1 : (kp : Int) + 1 ≤ (cq : Int) := by omega
              have ck6 : ((kp + 1 : Nat) : Int) = (kp : Int) + 1 := by omega
              have ck3 : (kp : Int) ≤ (m : Int) + 1 := by omega
              have ck7 : (kp : Int) + 1 ≤ (m : Int) + 1 := by omega
              have g7 := Lib.hid (show w5.cell? ⟨g, kx * 2, none⟩ = some (.int .i64 f) ∧ w5.cell? ⟨g, kx * 2 + 1, none⟩ = some (.int .i64 t) ∧ g < w.heap.size from by
                obtain ⟨gx, ex, hgx, y0, y1⟩ := F.out kx _ hp'.out
                cases ex
                exact ⟨(B5.out.cell (p := ⟨g, _, none⟩) hgx).trans y0, (B5.out.cell (p := ⟨g, _, none⟩) hgx).trans y1, hgx⟩)
              have F_cell := Lib.hid (show w.cell? ⟨g, kx * 2, none⟩ = some (.int .i64 f) ∧ w.cell? ⟨g, kx * 2 + 1, none⟩ = some (.int .i64 t) from by
                obtain ⟨gx, ex, hgx, y0, y1⟩ := F.out kx _ hp'.out
                cases ex
                exact ⟨y0, y1⟩)
              have NI := Lib.hid (HN.out.ins hp'.out ft (by have := hm.out; omega) HG.out HE.out)
              clear O2 G2 hg2 hl2 O3 hb3 hB3 one j0 j1 bp HB O HN HG HE
              by_cases hkm2 : kp = m
              · have qc := Lib.hid (show kp + 1 ≤ cq by omega)
                have qd := Lib.hid (show kp + 1 ≤ m + 1 by omega)
                have qe := Lib.hid (show kp ≤ m + 1 by omega)
                have qf := Lib.hid (show ¬ (m + 1 < kp) by omega)
                replace hkm2 := Lib.hid hkm2
                refine wp_region_noPanic ?_
                refine wp_region_any (by kernel_rfl) ?_
                refine Inv.wpAny_inv (fun k => k == 7) [53, 54, 55, 56, 57, 58, 59] (fun w' => Below w5.heap.size w5 w') (fun _ w1 w2 => Below w1.heap.size w1 w2) (fun k => ([fun v_ w_ => v_ = .slice (some ⟨gq, 0, none⟩) (m + 1) cq, fun v_ w_ => v_ = .int .i64 (kp : Int), fun v_ w_ => v_ = .int .i64 ((kp : Int) + 1), fun v_ w_ => ∃ x l c, v_ = .slice x l c ∧ l = 0, fun v_ w_ => v_ = .slice (some ⟨gq, 0, none⟩) (m + 1) cq, fun v_ w_ => v_ = .int .i64 (kp : Int), fun v_ w_ => ∃ x l c, v_ = .slice x l c ∧ l = 1, fun v_ w_ => True] : List (Value → World → Prop)).getD k (fun _ _ => True)) _ (fun σ => by simp only [Inv.putAll, List.foldl_cons, List.foldl_nil, Act.put, List.setIfInBounds_toArray, List.set_cons_zero, List.set_cons_succ]; rfl) (by kernel_rfl) (by kernel_rfl) ?_ (Below.refl _ _).drew ?_ ?_ 1 #[true, true, true, true, true, true, true, false] (by kernel_rfl) (by kernel_rfl) ?_
                · intro j k v w1 w2 hjk hv hr
                  rcases k with _ | k
                  · exact hv
                  rcases k with _ | k
                  · exact hv
                  rcases k with _ | k
                  · exact hv
                  rcases k with _ | k
                  · exact hv
                  rcases k with _ | k
                  · exact hv
                  rcases k with _ | k
                  · exact hv
                  rcases k with _ | k
                  · exact hv
                  rcases k with _ | k
                  · exact hv
                  · exact hv
                · intro k t hl hd
                  rcases k with _ | k
                  · exact absurd hl (by decide +kernel)
                  rcases k with _ | k
                  · exact absurd hl (by decide +kernel)
                  rcases k with _ | k
                  · exact absurd hl (by decide +kernel)
                  rcases k with _ | k
                  · exact absurd hl (by decide +kernel)
                  rcases k with _ | k
                  · exact absurd hl (by decide +kernel)
                  rcases k with _ | k
                  · exact absurd hl (by decide +kernel)
                  rcases k with _ | k
                  · exact absurd hl (by decide +kernel)
                  rcases k with _ | k
                  · exact absurd hl (by decide +kernel)
                  · simp at hd
                · show Inv.Steps _ _ _ _ _ _ _ _ [0, 1, 2, 3, 4, 5, 6]
                  refine Inv.Steps.go (by decide) (by rfl) (fun σ wx hw hd K hK => ?_) ?_
                  · simp only [List.getElem_toArray, List.getElem_cons_zero, List.getElem_cons_succ, Act.put, List.setIfInBounds_toArray, List.set_cons_zero, List.set_cons_succ] at hK ⊢
                    go_simp
                    exact hK.out _ _ hw (Below.refl _ _) (rfl)
                  refine Inv.Steps.go (by decide) (by rfl) (fun σ wx hw hd K hK => ?_) ?_
                  · simp only [List.getElem_toArray, List.getElem_cons_zero, List.getElem_cons_succ, Act.put, List.setIfInBounds_toArray, List.set_cons_zero, List.set_cons_succ] at hK ⊢
                    go_simp
                    exact hK.out _ _ hw (Below.refl _ _) (rfl)
                  refine Inv.Steps.go (by decide) (by rfl) (fun σ wx hw hd K hK => ?_) ?_
                  · obtain e54 : (σ 54) = .int .i64 (kp : Int) := hd 1 (some 54) (by kernel_rfl) (by rfl)
                    simp only [List.getElem_toArray, List.getElem_cons_zero, List.getElem_cons_succ, Act.put, List.setIfInBounds_toArray, List.set_cons_zero, List.set_cons_succ, e54] at hK ⊢
                    go_simp
                    exact hK.out _ _ hw (Below.refl _ _) (rfl)
                  refine Inv.Steps.go (by decide) (by rfl) (fun σ wx hw hd K hK => ?_) ?_
                  · obtain e53 : (σ 53) = .slice (some ⟨gq, 0, none⟩) (m + 1) cq := hd 0 (some 53) (by kernel_rfl) (by rfl)
                    obtain e55 : (σ 55) = .int .i64 ((kp : Int) + 1) := hd 2 (some 55) (by kernel_rfl) (by rfl)
                    simp only [List.getElem_toArray, List.getElem_cons_zero, List.getElem_cons_succ, Act.put, List.setIfInBounds_toArray, List.set_cons_zero, List.set_cons_succ, e53, e55] at hK ⊢
                    go_simp
                    try simp only [if_pos qc.out, if_pos qd.out, if_pos qe.out, if_neg qf.out]
                    try go_simp
                    exact hK.out _ _ hw (Below.refl _ _) (⟨_, _, _, rfl, by have := hkm2.out; omega⟩)
                  refine Inv.Steps.go (by decide) (by rfl) (fun σ wx hw hd K hK => ?_) ?_
                  · simp only [List.getElem_toArray, List.getElem_cons_zero, List.getElem_cons_succ, Act.put, List.setIfInBounds_toArray, List.set_cons_zero, List.set_cons_succ] at hK ⊢
                    go_simp
                    exact hK.out _ _ hw (Below.refl _ _) (rfl)
                  refine Inv.Steps.go (by decide) (by rfl) (fun σ wx hw hd K hK => ?_) ?_
                  · simp only [List.getElem_toArray, List.getElem_cons_zero, List.getElem_cons_succ, Act.put, List.setIfInBounds_toArray, List.set_cons_zero, List.set_cons_succ] at hK ⊢
                    go_simp
                    exact hK.out _ _ hw (Below.refl _ _) (rfl)
                  refine Inv.Steps.go (by decide) (by rfl) (fun σ wx hw hd K hK => ?_) ?_
                  · obtain e57 : (σ 57) = .slice (some ⟨gq, 0, none⟩) (m + 1) cq := hd 4 (some 57) (by kernel_rfl) (by rfl)
                    obtain e58 : (σ 58) = .int .i64 (kp : Int) := hd 5 (some 58) (by kernel_rfl) (by rfl)
                    simp only [List.getElem_toArray, List.getElem_cons_zero, List.getElem_cons_succ, Act.put, List.setIfInBounds_toArray, List.set_cons_zero, List.set_cons_succ, e57, e58] at hK ⊢
                    go_simp
                    try simp only [if_pos qc.out, if_pos qd.out, if_pos qe.out, if_neg qf.out]
                    try go_simp
                    exact hK.out _ _ hw (Below.refl _ _) (⟨_, _, _, rfl, by have := hkm2.out; omega⟩)
                  exact Inv.Steps.nil
                · intro σ wx hw hd
                  obtain ⟨x56, l56, c56, e56, rfl⟩ : ∃ x l c, (σ 56) = .slice x l c ∧ l = 0 := hd 3 (some 56) (by rfl) (by rfl)
                  obtain ⟨x59, l59, c59, e59, rfl⟩ : ∃ x l c, (σ 59) = .slice x l c ∧ l = 1 := hd 6 (some 59) (by rfl) (by rfl)
                  simp only [e56, e59]
                  refine Inv.one (i := 7) (by decide) (by kernel_rfl) (by rfl) (fun K hK => ?_)
                  simp only [List.getElem_toArray, List.getElem_cons_zero, List.getElem_cons_succ, Act.put, List.setIfInBounds_toArray, List.set_cons_zero, List.set_cons_succ] at hK ⊢
                  refine wp_copy_none (.tmp 56) (.tmp 59) 23 23 rfl 49 2 Try.underlying23 hsz x56 x59 c56 1 c59 (by simp [Act.eval]) (by simp [Act.eval]) ?_
                  refine hK.out _ _ ?_
                  clear hK K hd
                  refine Inv.done (by kernel_rfl) (NoPanic.normal ?_)
                  have O6 : Hid (wx.ownsRow w.heap.size 49 2 (.slice (some ⟨gq, 0, none⟩) (m + 1) cq) (m + 1) (cells2 ((S ++ [(f, t)]).take (kp + 1) ++ S.drop kp))) := Lib.hid (by rw [hkm2.out, List.take_of_length_le (by simp; have := hm.out; omega), List.drop_of_length_le (by have := hm.out; omega), List.append_nil]; exact own_below O5.out hw)
                  have B6 := Lib.hid (Buf.then_ B5.out hw)
                  generalize wx = w6 at *
                  generalize σ 53 = v53
                  generalize σ 54 = v54
                  generalize σ 55 = v55
                  generalize σ 57 = v57
                  generalize σ 58 = v58
                  have hlen6 : (((S ++ [(f, t)]).take (kp + 1) ++ S.drop kp)).length = m + 1 := by simp; have := hm.out; omega
                  obtain ⟨p6, hp6⟩ : ∃ p, (((S ++ [(f, t)]).take (kp + 1) ++ S.drop kp))[kp]? = some p := ⟨_, List.getElem?_eq_getElem (by omega)⟩
                  obtain ⟨hz9, _, gq', egq, hgq6, _, s0, s1, s2, s3⟩ := own_get (L := (S ++ [(f, t)]).take (kp + 1) ++ S.drop kp) (n := m + 1) (show Spans w6 w.heap.size (.slice (some ⟨gq, 0, none⟩) (m + 1) cq) _ from by unfold Spans; rw [hlen6]; exact O6.out) hp6
                  cases egq
                  clear hz9 hp6 hlen6
                  have y0 := (B6.out.cell (p := ⟨g, kx * 2, none⟩) g7.out.2.2).trans ((F_cell.out).1)
                  have y1 := (B6.out.cell (p := ⟨g, kx * 2 + 1, none⟩) g7.out.2.2).trans ((F_cell.out).2)
                  have bk6 : (kp : Int) < (m : Int) + 1 := by omega
                  have OX := Lib.hid (own_put O6.out kp (f, t))
                  rw [insL_set S (f, t) kp (by have := hm.out; omega)] at OX
                  have BX := Lib.hid ((B6.out.setCell (p := ⟨gq, kp * 2, none⟩) hgqB (.int .i64 f)).setCell (p := ⟨gq, kp * 2 + 1, none⟩) hgqB (.int .i64 t))
                  have hlX : Hid ((insL S (f, t) kp).length = m + 1) := Lib.hid (by rw [insL_len S _ kp (by have := hm.out; omega), ← hm.out])
                  clear O6 B6 O5 B5
                  go_wp2_with fail
                  go_roundw
                  case rel => exact ⟨kx + 1, insL S (f, t) kp, by omega, by go_num, Lib.hid (by unfold Spans; rw [hlX.out]; exact OX.out), NI, Lib.hid BX.out⟩
                  case measure => simp [intOf]; omega
              · have qc := Lib.hid (show kp + 1 ≤ cq by omega)
                have qd := Lib.hid (show kp + 1 ≤ m + 1 by omega)
                have qe := Lib.hid (show kp ≤ m + 1 by omega)
                have qf := Lib.hid (show ¬ (m + 1 < kp) by omega)
                have qg := Lib.hid (show ¬ (cq = kp + 1) by omega)
                have qh := Lib.hid (show ¬ (cq = kp) by omega)
                refine wp_region_noPanic ?_
                refine wp_region_any (by kernel_rfl) ?_
                refine Inv.wpAny_inv (fun k => k == 7) [53, 54, 55, 56, 57, 58, 59] (fun w' => Below w5.heap.size w5 w') (fun _ w1 w2 => Below w1.heap.size w1 w2) (fun k => ([fun v_ w_ => v_ = .slice (some ⟨gq, 0, none⟩) (m + 1) cq, fun v_ w_ => v_ = .int .i64 (kp : Int), fun v_ w_ => v_ = .int .i64 ((kp : Int) + 1), fun v_ w_ => v_ = .slice (some ⟨gq, (kp + 1) * 2, none⟩) (m - kp) (cq - (kp + 1)), fun v_ w_ => v_ = .slice (some ⟨gq, 0, none⟩) (m + 1) cq, fun v_ w_ => v_ = .int .i64 (kp : Int), fun v_ w_ => v_ = .slice (some ⟨gq, kp * 2, none⟩) (m + 1 - kp) (cq - kp), fun v_ w_ => True] : List (Value → World → Prop)).getD k (fun _ _ => True)) _ (fun σ => by simp only [Inv.putAll, List.foldl_cons, List.foldl_nil, Act.put, List.setIfInBounds_toArray, List.set_cons_zero, List.set_cons_succ]; rfl) (by kernel_rfl) (by kernel_rfl) ?_ (Below.refl _ _).drew ?_ ?_ 1 #[true, true, true, true, true, true, true, false] (by kernel_rfl) (by kernel_rfl) ?_
                · intro j k v w1 w2 hjk hv hr
                  rcases k with _ | k
                  · exact hv
                  rcases k with _ | k
                  · exact hv
                  rcases k with _ | k
                  · exact hv
                  rcases k with _ | k
                  · exact hv
                  rcases k with _ | k
                  · exact hv
                  rcases k with _ | k
                  · exact hv
                  rcases k with _ | k
                  · exact hv
                  rcases k with _ | k
                  · exact hv
                  · exact hv
                · intro k t hl hd
                  rcases k with _ | k
                  · exact absurd hl (by decide +kernel)
                  rcases k with _ | k
                  · exact absurd hl (by decide +kernel)
                  rcases k with _ | k
                  · exact absurd hl (by decide +kernel)
                  rcases k with _ | k
                  · exact absurd hl (by decide +kernel)
                  rcases k with _ | k
                  · exact absurd hl (by decide +kernel)
                  rcases k with _ | k
                  · exact absurd hl (by decide +kernel)
                  rcases k with _ | k
                  · exact absurd hl (by decide +kernel)
                  rcases k with _ | k
                  · exact absurd hl (by decide +kernel)
                  · simp at hd
                · show Inv.Steps _ _ _ _ _ _ _ _ [0, 1, 2, 3, 4, 5, 6]
                  refine Inv.Steps.go (by decide) (by rfl) (fun σ wx hw hd K hK => ?_) ?_
                  · simp only [List.getElem_toArray, List.getElem_cons_zero, List.getElem_cons_succ, Act.put, List.setIfInBounds_toArray, List.set_cons_zero, List.set_cons_succ] at hK ⊢
                    go_simp
                    exact hK.out _ _ hw (Below.refl _ _) (rfl)
                  refine Inv.Steps.go (by decide) (by rfl) (fun σ wx hw hd K hK => ?_) ?_
                  · simp only [List.getElem_toArray, List.getElem_cons_zero, List.getElem_cons_succ, Act.put, List.setIfInBounds_toArray, List.set_cons_zero, List.set_cons_succ] at hK ⊢
                    go_simp
                    exact hK.out _ _ hw (Below.refl _ _) (rfl)
                  refine Inv.Steps.go (by decide) (by rfl) (fun σ wx hw hd K hK => ?_) ?_
                  · obtain e54 : (σ 54) = .int .i64 (kp : Int) := hd 1 (some 54) (by kernel_rfl) (by rfl)
                    simp only [List.getElem_toArray, List.getElem_cons_zero, List.getElem_cons_succ, Act.put, List.setIfInBounds_toArray, List.set_cons_zero, List.set_cons_succ, e54] at hK ⊢
                    go_simp
                    exact hK.out _ _ hw (Below.refl _ _) (rfl)
                  refine Inv.Steps.go (by decide) (by rfl) (fun σ wx hw hd K hK => ?_) ?_
                  · obtain e53 : (σ 53) = .slice (some ⟨gq, 0, none⟩) (m + 1) cq := hd 0 (some 53) (by kernel_rfl) (by rfl)
                    obtain e55 : (σ 55) = .int .i64 ((kp : Int) + 1) := hd 2 (some 55) (by kernel_rfl) (by rfl)
                    simp only [List.getElem_toArray, List.getElem_cons_zero, List.getElem_cons_succ, Act.put, List.setIfInBounds_toArray, List.set_cons_zero, List.set_cons_succ, e53, e55] at hK ⊢
                    go_simp
                    try simp only [if_pos qc.out, if_pos qd.out, if_pos qe.out, if_neg qf.out]
                    try go_simp
                    try simp only [if_neg qg.out, if_neg qh.out]
                    exact hK.out _ _ hw (Below.refl _ _) (rfl)
                  refine Inv.Steps.go (by decide) (by rfl) (fun σ wx hw hd K hK => ?_) ?_
                  · simp only [List.getElem_toArray, List.getElem_cons_zero, List.getElem_cons_succ, Act.put, List.setIfInBounds_toArray, List.set_cons_zero, List.set_cons_succ] at hK ⊢
                    go_simp
                    exact hK.out _ _ hw (Below.refl _ _) (rfl)
                  refine Inv.Steps.go (by decide) (by rfl) (fun σ wx hw hd K hK => ?_) ?_
                  · simp only [List.getElem_toArray, List.getElem_cons_zero, List.getElem_cons_succ, Act.put, List.setIfInBounds_toArray, List.set_cons_zero, List.set_cons_succ] at hK ⊢
                    go_simp
                    exact hK.out _ _ hw (Below.refl _ _) (rfl)
                  refine Inv.Steps.go (by decide) (by rfl) (fun σ wx hw hd K hK => ?_) ?_
                  · obtain e57 : (σ 57) = .slice (some ⟨gq, 0, none⟩) (m + 1) cq := hd 4 (some 57) (by kernel_rfl) (by rfl)
                    obtain e58 : (σ 58) = .int .i64 (kp : Int) := hd 5 (some 58) (by kernel_rfl) (by rfl)
                    simp only [List.getElem_toArray, List.getElem_cons_zero, List.getElem_cons_succ, Act.put, List.setIfInBounds_toArray, List.set_cons_zero, List.set_cons_succ, e57, e58] at hK ⊢
                    go_simp
                    try simp only [if_pos qc.out, if_pos qd.out, if_pos qe.out, if_neg qf.out]
                    try go_simp
                    try simp only [if_neg qg.out, if_neg qh.out]
                    exact hK.out _ _ hw (Below.refl _ _) (rfl)
                  exact Inv.Steps.nil
                · intro σ wx hw hd
                  obtain e56 : (σ 56) = .slice (some ⟨gq, (kp + 1) * 2, none⟩) (m - kp) (cq - (kp + 1)) := hd 3 (some 56) (by rfl) (by rfl)
                  obtain e59 : (σ 59) = .slice (some ⟨gq, kp * 2, none⟩) (m + 1 - kp) (cq - kp) := hd 6 (some 59) (by rfl) (by rfl)
                  simp only [e56, e59]
                  refine Inv.one (i := 7) (by decide) (by kernel_rfl) (by rfl) (fun K hK => ?_)
                  simp only [List.getElem_toArray, List.getElem_cons_zero, List.getElem_cons_succ, Act.put, List.setIfInBounds_toArray, List.set_cons_zero, List.set_cons_succ] at hK ⊢
                  obtain ⟨cur, hcur, cfit, clen, csrc, cown⟩ := own_move hm.out (own_below O5.out hw) kp hkm
                  refine wp_copy_rowk (.tmp 56) (.tmp 59) 23 23 rfl 49 2 Try.underlying23 hsz gq ((kp + 1) * 2) (m - kp) (cq - (kp + 1)) ⟨gq, kp * 2, none⟩ (m + 1 - kp) (cq - kp) (by simp [Act.eval]) (by simp [Act.eval]) cur _ hcur (cells2 (S.drop kp)) (by rw [clen]; congr 1; show m - kp = min (m + 1 - kp) (m - kp); omega) csrc cfit (cells2_one _) ?_
                  refine hK.out _ _ ?_
                  clear hK K hd
                  refine Inv.done (by kernel_rfl) (NoPanic.normal ?_)
                  have O6 := Lib.hid cown
                  have B6 := Lib.hid (Mid.below_row (Buf.then_ B5.out hw) gq (cur.toList.take ((kp + 1) * 2) ++ cells2 (S.drop kp) ++ cur.toList.drop ((kp + 1) * 2 + (cells2 (S.drop kp)).length)).toArray hgqB)
                  generalize (wx.setRow gq (cur.toList.take ((kp + 1) * 2) ++ cells2 (S.drop kp) ++ cur.toList.drop ((kp + 1) * 2 + (cells2 (S.drop kp)).length)).toArray) = w6 at *
                  clear hcur cfit clen csrc cown hw
                  generalize σ 53 = v53
                  generalize σ 54 = v54
                  generalize σ 55 = v55
                  generalize σ 57 = v57
                  generalize σ 58 = v58
                  have hlen6 : (((S ++ [(f, t)]).take (kp + 1) ++ S.drop kp)).length = m + 1 := by simp; have := hm.out; omega
                  obtain ⟨p6, hp6⟩ : ∃ p, (((S ++ [(f, t)]).take (kp + 1) ++ S.drop kp))[kp]? = some p := ⟨_, List.getElem?_eq_getElem (by omega)⟩
                  obtain ⟨hz9, _, gq', egq, hgq6, _, s0, s1, s2, s3⟩ := own_get (L := (S ++ [(f, t)]).take (kp + 1) ++ S.drop kp) (n := m + 1) (show Spans w6 w.heap.size (.slice (some ⟨gq, 0, none⟩) (m + 1) cq) _ from by unfold Spans; rw [hlen6]; exact O6.out) hp6
                  cases egq
                  clear hz9 hp6 hlen6
                  have y0 := (B6.out.cell (p := ⟨g, kx * 2, none⟩) g7.out.2.2).trans ((F_cell.out).1)
                  have y1 := (B6.out.cell (p := ⟨g, kx * 2 + 1, none⟩) g7.out.2.2).trans ((F_cell.out).2)
                  have bk6 : (kp : Int) < (m : Int) + 1 := by omega
                  have OX := Lib.hid (own_put O6.out kp (f, t))
                  rw [insL_set S (f, t) kp (by have := hm.out; omega)] at OX
                  have BX := Lib.hid ((B6.out.setCell (p := ⟨gq, kp * 2, none⟩) hgqB (.int .i64 f)).setCell (p := ⟨gq, kp * 2 + 1, none⟩) hgqB (.int .i64 t))
                  have hlX : Hid ((insL S (f, t) kp).length = m + 1) := Lib.hid (by rw [insL_len S _ kp (by have := hm.out; omega), ← hm.out])
                  clear O6 B6 O5 B5
                  go_wp2_with fail
                  go_roundw
                  case rel => exact ⟨kx + 1, insL S (f, t) kp, by omega, by go_num, Lib.hid (by unfold Spans; rw [hlX.out]; exact OX.out), NI, Lib.hid BX.out⟩
                  case measure => simp [intOf]; omega
      · have dft : decide (t ≤ f) = true := decide_eq_true (by omega)
        have NS := Lib.hid (HN.out.skip hp'.out (by simp only; omega))
        clear HN
        go_wp2_with fail
        go_quiet (fail)
        go_wp2_with fail
        go_roundw
        case rel => exact ⟨kx + 1, S, by omega, by go_num, Lib.hid (by unfold Spans; rw [← hm.out]; repeat (first | exact O.out | refine own_below ?_ (Buf.below_drewN (Below.refl _ _) _))), NS, Lib.hid (by repeat (first | exact HB.out | refine Buf.below_drewN ?_ _))⟩
        case measure => simp [intOf]; omega
    · obtain rfl : kx = n := by omega
      obtain ⟨w2, hw2⟩ : ∃ z, z = wr := ⟨_, rfl⟩
      subst hw2
      have hm9 : m ≤ 200 := by omega
      have O' := Lib.hid (show Spans w2 w.heap.size (.slice sa m sc) S from by unfold Spans; rw [← hm.out]; exact O.out)
      have FS := Lib.hid (fun (j : Nat) (p : Int × Int) (hj : S[j]? = some p) => own_get O'.out hj)
      have B0 := Lib.hid (Below.refl w2.heap.size w2)
      have Z0 : Hid (Spans w2 w2.heap.size (.slice none 0 0) []) := Lib.hid (World.ownsRow_nil _ _ _ _)
      have M0 := Lib.hid (Ms.start S)
      clear hlt hk O O'
      go_wp2_with fail
      go_loopw [6, 7] (fun s i wr => ∃ (kz : Nat) (N : LP), kz ≤ m ∧ i = .int .i64 kz ∧ Hid (Spans wr w2.heap.size s N) ∧ Hid (Ms S kz N) ∧ Hid (Below w2.heap.size w2 wr)) (fun _ i _ => m - (intOf i).toNat)
      case atStart => exact ⟨0, [], Nat.zero_le _, rfl, Z0, M0, B0⟩
      case round =>
        clear B0 Z0 M0
        obtain ⟨kz, N, hkz, rfl, OT, HM, HC⟩ := hrel
        obtain ⟨ta, tc, rfl⟩ := own_len OT.out
        obtain ⟨nn, hnn⟩ : ∃ nn, nn = N.length := ⟨_, rfl⟩
        have hnk : nn ≤ kz := by rw [hnn]; exact HM.out.len
        unfold Spans at OT
        rw [← hnn] at OT ⊢
        have O9 := Lib.hid (show Spans wr w2.heap.size (.slice ta nn tc) N from by unfold Spans; rw [← hnn]; exact OT.out)
        replace hnn := Lib.hid hnn
        by_cases hlt : kz < m
        · obtain ⟨⟨f, t⟩, hp⟩ : ∃ p, S[kz]? = some p := ⟨S[kz]'(by rw [← hm.out]; exact hlt), List.getElem?_eq_getElem _⟩
          obtain ⟨hz1_, hz2_, g, rfl, hg, hgB, q0, q1, _⟩ := FS.out _ _ hp
          have k0 := (HC.out.cell (p := ⟨g, _, none⟩) hg).trans q0
          have k1 := (HC.out.cell (p := ⟨g, _, none⟩) hg).trans q1
          dsimp only at k0 k1
          have b1 : (kz : Int) < (m : Int) := by omega
          have ft : f < t := HN.out.one _ (List.mem_of_getElem? hp)
          have MS := Lib.hid (HM.out.add HN.out hp)
          replace ft := Lib.hid ft
          clear q0 q1 hp hz1_ HM
          rcases snoc_cases N with rfl | ⟨u, ⟨p1, p2⟩, rfl⟩
          · have hn0 := Lib.hid (show nn = 0 from by rw [hnn.out]; rfl)
            obtain ⟨N, hN⟩ : ∃ N : LP, N = [] := ⟨_, rfl⟩
            rw [← hN] at hnn OT MS O9
            have AD : Hid (addL N (f, t) = N ++ [(f, t)]) := Lib.hid (by rw [hN]; exact addL_nil _ ft.out)
            replace hN := Lib.hid hN
            have d0 : decide ((0 : Int) < (nn : Int)) = false := decide_eq_false (by have := hn0.out; omega)
            have d0n : decide (0 < nn) = false := decide_eq_false (by have := hn0.out; omega)
            have hn9 : nn ≤ 200 := by rw [hn0.out]; omega
            clear hnk
            go_wp2_with fail
            go_quiet (fail)
            go_upto_region 19 with fail
            clear d0 d0n
            obtain ⟨wp, hwp⟩ : ∃ wp, wp = wr.drewN nq := ⟨_, rfl⟩
            have bp := Lib.hid (show Below wr.heap.size wr wp by rw [hwp]; exact Buf.below_drewN (Below.refl _ _) _)
            have j0 : wp.cell? ⟨g, kz * 2, none⟩ = some (.int .i64 f) := by rw [hwp]; exact k0
            have j1 : wp.cell? ⟨g, kz * 2 + 1, none⟩ = some (.int .i64 t) := by rw [hwp]; exact k1
            rw [← hwp]
            clear hwp k0 k1
            have hb3 := Lib.hid (heap_alloc_new wp (.cells #[.int .i64 f, .int .i64 t] 49))
            have O3 := Lib.hid (own_below (own_below OT.out bp.out) (new_block (w := wp) (.cells #[.int .i64 f, .int .i64 t] 49)))
            have one : Hid (∀ u ∈ [Value.int .i64 f, .int .i64 t], u.oneCell' = true) := Lib.hid (by intro u hu; simp at hu; rcases hu with rfl | rfl <;> rfl)
            have hB3 := Lib.hid (show w2.heap.size ≤ (wp.alloc (.cells #[.int .i64 f, .int .i64 t] 49)).heap.size by have := HC.out.size; have := bp.out.size; simp; omega)
            go_wp2_with (at_builtin; refine wpList_append_lies _ rfl (.tmp 109) (.tmp 114) 23 rfl w2.heap.size 49 i0 (.agg #[.int .i64 0, .int .i64 0]) 2 16 Try.underlying23 hi hz0 hz1 hz2 rfl (by decide) _ nn (cells2 N) rfl O3.out ⟨wp.heap.size, 0, none⟩ 1 1 [.int .i64 f, .int .i64 t] rfl rfl (World.news_of_block hb3.out) one.out (by decide) (by unfold maxLen; omega) (by omega) hB3.out _ rfl ?_; intro gq cq w5 O2 G2 hg2 hl2)
            have O5 := Lib.hid (show Spans w5 w2.heap.size (.slice (some ⟨gq, 0, none⟩) (nn + 1) cq) (addL N (f, t)) by
              unfold Spans
              rw [AD.out, cells2_snoc, List.length_append, ← hnn.out]
              exact O2)
            have B5 := Lib.hid (show Below w2.heap.size w2 w5 from (Buf.then_ (Buf.then_ HC.out bp.out) (new_block (w := wp) (.cells #[.int .i64 f, .int .i64 t] 49))).grown G2 (by have := HC.out.size; have := bp.out.size; simp; omega) (fun b hb => (O3.out.lt b hb).1))
            clear O2 G2 hg2 hl2 O3 hb3 hB3 one j0 j1 bp OT HC
            go_roundw
            case rel => exact ⟨kz + 1, addL N (f, t), by omega, by go_num, O5, MS, B5⟩
            case measure => simp [intOf]; omega
          · obtain ⟨N, hN⟩ : ∃ N : LP, N = u ++ [(p1, p2)] := ⟨_, rfl⟩
            obtain ⟨k1', hk1⟩ : ∃ k1', k1' = u.length := ⟨_, rfl⟩
            have hnk1 : nn = k1' + 1 := by rw [hnn.out, hk1]; simp
            have hx : N[k1']? = some (p1, p2) := by rw [hN, hk1]; simp
            rw [← hN] at hnn OT MS O9
            obtain ⟨hz1_, nsc, gs, hta, hgs, hgsB, _, c3, _, c4⟩ := own_get O9.out hx
            subst hta
            dsimp only at c3 c4
            clear hx hz1_
            have e1 : (nn : Int) - 1 = (k1' : Int) := by omega
            have bk : (k1' : Int) < (nn : Int) := by omega
            have hn9 : nn ≤ 200 := by omega
            have d0 : decide ((0 : Int) < (nn : Int)) = true := decide_eq_true (by omega)
            have d0n : decide (0 < nn) = true := decide_eq_true (by omega)
            replace hnk1 := Lib.hid hnk1
            by_cases fx : f ≤ p2
            · have d1 : decide (f ≤ p2) = true := decide_eq_true fx
              have AD := Lib.hid (addL_join u (p1, p2) (f, t) ft.out fx)
              rw [← hN] at AD
              replace hN := Lib.hid hN
              replace hk1 := Lib.hid hk1
              go_wp2_with fail
              go_quiet (fail)
              go_upto_region 18 with fail
              obtain ⟨wp, hwp⟩ : ∃ wp, wp = wr.drewN nq := ⟨_, rfl⟩
              have bp := Lib.hid (show Below wr.heap.size wr wp by rw [hwp]; exact Buf.below_drewN (Below.refl _ _) _)
              have j1 : wp.cell? ⟨g, kz * 2 + 1, none⟩ = some (.int .i64 t) := by rw [hwp]; exact k1
              have j3 : wp.cell? ⟨gs, k1' * 2 + 1, none⟩ = some (.int .i64 p2) := by rw [hwp]; exact c3
              have Op := Lib.hid (own_below OT.out bp.out)
              have fz : wp.frozen? ⟨gs, k1' * 2 + 1, none⟩ = false := World.ownsRow.frozenAt Op.out _
              rw [← hwp]
              clear hwp k0 k1 c3 c4 d0 d0n d1
              have STO := Lib.hid (World.ownsRow.stored Op.out (k1' * 2 + 1) (.int .i64 (max p2 t)))
              rw [hN.out, set_last u (p1, p2) (max p2 t) k1' hk1.out] at STO
              have AD2 := AD.out
              rw [← AD2] at STO
              have hlA : Hid ((addL N (f, t)).length = nn) := Lib.hid (by rw [AD2, List.length_append, hnk1.out, hk1.out]; rfl)
              have WB := Lib.hid ((Buf.then_ HC.out bp.out).setCell (p := ⟨gs, k1' * 2 + 1, none⟩) hgsB (.int .i64 (max p2 t)))
              clear AD2 AD OT O9 Op
              go_region
              all_goals go_wp2_with fail
              all_goals go_roundw
              all_goals first
                | (case rel => exact ⟨kz + 1, addL N (f, t), by omega, by go_num, Lib.hid (by unfold Spans; rw [hlA.out]; exact own_below STO.out.1 (by repeat (first | exact Below.refl _ _ | refine Below.drew ?_))), MS, Lib.hid (by repeat (first | exact WB.out | refine Below.drew ?_))⟩)
                | (case measure => simp [intOf]; omega)
            · have d1 : decide (f ≤ p2) = false := decide_eq_false fx
              have AD := Lib.hid (addL_new u (p1, p2) (f, t) ft.out (by simp only; omega))
              rw [← hN] at AD
              replace hN := Lib.hid hN
              replace hk1 := Lib.hid hk1
              clear hnk
              go_wp2_with fail
              go_quiet (fail)
              go_upto_region 19 with fail
              clear d0 d0n d1 c3 c4 e1 bk fx
              obtain ⟨wp, hwp⟩ : ∃ wp, wp = wr.drewN nq := ⟨_, rfl⟩
              have bp := Lib.hid (show Below wr.heap.size wr wp by rw [hwp]; exact Buf.below_drewN (Below.refl _ _) _)
              have j0 : wp.cell? ⟨g, kz * 2, none⟩ = some (.int .i64 f) := by rw [hwp]; exact k0
              have j1 : wp.cell? ⟨g, kz * 2 + 1, none⟩ = some (.int .i64 t) := by rw [hwp]; exact k1
              rw [← hwp]
              clear hwp k0 k1
              have hb3 := Lib.hid (heap_alloc_new wp (.cells #[.int .i64 f, .int .i64 t] 49))
              have O3 := Lib.hid (own_below (own_below OT.out bp.out) (new_block (w := wp) (.cells #[.int .i64 f, .int .i64 t] 49)))
              have one : Hid (∀ u ∈ [Value.int .i64 f, .int .i64 t], u.oneCell' = true) := Lib.hid (by intro u hu; simp at hu; rcases hu with rfl | rfl <;> rfl)
              have hB3 := Lib.hid (show w2.heap.size ≤ (wp.alloc (.cells #[.int .i64 f, .int .i64 t] 49)).heap.size by have := HC.out.size; have := bp.out.size; simp; omega)
              go_wp2_with (at_builtin; refine wpList_append_lies _ rfl (.tmp 109) (.tmp 114) 23 rfl w2.heap.size 49 i0 (.agg #[.int .i64 0, .int .i64 0]) 2 16 Try.underlying23 hi hz0 hz1 hz2 rfl (by decide) _ nn (cells2 N) rfl O3.out ⟨wp.heap.size, 0, none⟩ 1 1 [.int .i64 f, .int .i64 t] rfl rfl (World.news_of_block hb3.out) one.out (by decide) (by unfold maxLen; omega) (by omega) hB3.out _ rfl ?_; intro gq cq w5 O2 G2 hg2 hl2)
              have O5 := Lib.hid (show Spans w5 w2.heap.size (.slice (some ⟨gq, 0, none⟩) (nn + 1) cq) (addL N (f, t)) by
                unfold Spans
                rw [AD.out, cells2_snoc, List.length_append, ← hnn.out]
                exact O2)
              have B5 := Lib.hid (show Below w2.heap.size w2 w5 from (Buf.then_ (Buf.then_ HC.out bp.out) (new_block (w := wp) (.cells #[.int .i64 f, .int .i64 t] 49))).grown G2 (by have := HC.out.size; have := bp.out.size; simp; omega) (fun b hb => (O3.out.lt b hb).1))
              clear O2 G2 hg2 hl2 O3 hb3 hB3 one j0 j1 bp OT HC
              go_roundw
              case rel => exact ⟨kz + 1, addL N (f, t), by omega, by go_num, O5, MS, B5⟩
              case measure => simp [intOf]; omega
        · obtain rfl : kz = m := by omega
          have RX := HM.out.is
          rw [take_all S kz (by rw [← hm.out]; exact Nat.le_refl _)] at RX
          have RY := RX.congr (g := hasB L) (fun x => by rw [HN.out.has, take_all L kx (by rw [← hn.out]; exact Nat.le_refl _)])
          go_wp2_with fail
          go_ret
          refine ⟨⟨_, N, rfl, own_mono (B := w2.heap.size) O9.out HB.out.size, RY, ?_⟩, Buf.then_ HB.out HC.out⟩
          have := hnn.out
          omega
end Spn
end Go.Proofs.Ytfmhfhggogjbkaa
