/- Policies that the reader makes. -/
import Derived.Test.YticjmblajloefaaRuleE
import Derived.Test.YticjmblajloefaaInv
import Derived.Laws.OwnMore
import Derived.Deep.AppendLies
set_option linter.unusedVariables false
set_option linter.unusedSimpArgs false
namespace Go.Proofs.Yticjmblajloefaa
open Go.RowKit
namespace Ru
/-- The cells of rules. -/
def cells4 (l : List (Int × Int × Int × Int)) : List Value := l.flatMap fun p => [.int .i64 p.1, .int .i64 p.2.1, .int .i64 p.2.2.1, .int .i64 p.2.2.2]
theorem cells4_snoc (l : List (Int × Int × Int × Int)) (x y z u : Int) : cells4 (l ++ [(x, y, z, u)]) = cells4 l ++ [.int .i64 x, .int .i64 y, .int .i64 z, .int .i64 u] := by simp [cells4, List.flatMap_append]
theorem cells4_length (l : List (Int × Int × Int × Int)) : (cells4 l).length = l.length * 4 := by
  induction l with
  | nil => rfl
  | cons p l ih => simp only [cells4, List.flatMap_cons, List.length_append, List.length_cons, List.length_nil] at ih ⊢; omega
theorem cells4_get (l : List (Int × Int × Int × Int)) (k : Nat) (p : Int × Int × Int × Int) (h : l[k]? = some p) :
    (cells4 l)[k * 4]? = some (.int .i64 p.1) ∧ (cells4 l)[k * 4 + 1]? = some (.int .i64 p.2.1) ∧ (cells4 l)[k * 4 + 2]? = some (.int .i64 p.2.2.1) ∧ (cells4 l)[k * 4 + 3]? = some (.int .i64 p.2.2.2) := by
  induction l generalizing k with
  | nil => simp at h
  | cons q l ih =>
    have e : cells4 (q :: l) = .int .i64 q.1 :: .int .i64 q.2.1 :: .int .i64 q.2.2.1 :: .int .i64 q.2.2.2 :: cells4 l := by simp [cells4]
    rw [e]
    cases k with
    | zero => simp at h; subst h; simp
    | succ k =>
      have := ih k (by simpa using h)
      have e1 : (k + 1) * 4 = k * 4 + 1 + 1 + 1 + 1 := by omega
      rw [e1]
      simpa using this
def Rok (p : Int × Int × Int × Int) : Prop := -100 ≤ p.1 ∧ p.1 ≤ 299 ∧ 1 ≤ p.2.1 ∧ p.2.1 ≤ 4 ∧ 0 ≤ p.2.2.1 ∧ p.2.2.1 ≤ 10000 ∧ 0 ≤ p.2.2.2 ∧ p.2.2.2 ≤ 100000
/-- A literal list of ints that a region has made. -/
def LitI (g : Nat) (xs : List Int) (v : Value) (w : World) : Prop := ∃ b, v = .slice (some ⟨b, 0, none⟩) xs.length xs.length ∧ b ≠ g ∧ b < w.heap.size ∧ Src.Ints w b xs
theorem LitI.stab {g : Nat} {xs : List Int} {v : Value} {w w' : World} (h : LitI g xs v w) (hr : w.grownBy w' (some g)) : LitI g xs v w' := by
  obtain ⟨b, h1, h2, h3, h4⟩ := h
  exact ⟨b, h1, h2, Nat.lt_of_lt_of_le h3 hr.size, fun j hj => (World.cell?_of_block (a := ⟨b, j, none⟩) (hr.block b h3 (by simpa using h2))).trans (h4 j hj)⟩
/-- A rule in a block of its own. -/
def LitR (g n0 : Nat) (v : Value) (w : World) : Prop := ∃ b x y z u, v = .slice (some ⟨b, 0, none⟩) 1 1 ∧ b ≠ g ∧ n0 ≤ b ∧ b < w.heap.size ∧ w.heap[b]? = some (.cells #[.int .i64 x, .int .i64 y, .int .i64 z, .int .i64 u] 48 (0, 0)) ∧ Rok (x, y, z, u)
theorem LitR.stab {g n0 : Nat} {v : Value} {w w' : World} (h : LitR g n0 v w) (hr : w.grownBy w' (some g)) : LitR g n0 v w' := by
  obtain ⟨b, x, y, z, u, h1, h2, h3, h4, h5, h6⟩ := h
  exact ⟨b, x, y, z, u, h1, h2, h3, Nat.lt_of_lt_of_le h4 hr.size, (hr.block b h4 (by simpa using h2)).trans h5, h6⟩
theorem own_kept {w w' : World} {B sz : Nat} {e : TypeId} {v : Value} {n : Nat} {xs : List Value} (h : w.ownsRow B e sz v n xs) (hb : ∀ k, v.ownBlock = some k → w'.heap[k]? = w.heap[k]?) : w'.ownsRow B e sz v n xs := by
  refine ⟨h.1, h.2.imp id ?_⟩
  rintro ⟨g, cap, cur, rfl, h1, h2, h3⟩
  exact ⟨g, cap, cur, rfl, h1, (hb g rfl).trans h2, h3⟩
theorem rw_of {w : World} {B gb c : Nat} {rs : List (Int × Int × Int × Int)} (h : w.ownsRow B 48 4 (.slice (some ⟨gb, 0, none⟩) rs.length c) rs.length (cells4 rs)) (h1 : 1 ≤ rs.length) (h8 : rs.length ≤ 8) (hr : ∀ r ∈ rs, Rok r) :
    RW w gb rs.length c (fun j => (rs.getD j default).1) (fun j => (rs.getD j default).2.1) (fun j => (rs.getD j default).2.2.1) (fun j => (rs.getD j default).2.2.2) := by
  have hg := (h.lt gb rfl).2
  have hc : rs.length ≤ c ∧ c ≤ maxLen := by
    rcases h.2 with ⟨e, _⟩ | ⟨g', c', cur, e, _, _, h3, h4, _⟩
    · simp at e
    · simp only [Value.slice.injEq, Option.some.injEq, Addr.mk.injEq, and_true, true_and] at e
      obtain ⟨rfl, rfl⟩ := e
      exact ⟨h3, h4⟩
  have hj : ∀ j, j < rs.length → rs[j]? = some (rs.getD j default) := fun j hj => by simp [List.getD, hj]
  refine ⟨h1, h8, hc.1, hc.2, hg, fun j hj' => ?_, fun j hj' => ?_, fun j hj' => ?_, fun j hj' => ?_, fun j hj' => ?_⟩
  · rw [World.ownsRow.cellAt h _ (by omega)]; exact (cells4_get rs j _ (hj j hj')).1
  · rw [World.ownsRow.cellAt h _ (by omega)]; exact (cells4_get rs j _ (hj j hj')).2.1
  · rw [World.ownsRow.cellAt h _ (by omega)]; exact (cells4_get rs j _ (hj j hj')).2.2.1
  · rw [World.ownsRow.cellAt h _ (by omega)]; exact (cells4_get rs j _ (hj j hj')).2.2.2
  · have hm : rs.getD j default ∈ rs := by
      have e := hj j hj'
      exact List.mem_of_getElem? e
    obtain ⟨v0, v1, v2, v3, v4, v5, v6, v7⟩ := hr _ hm
    omega
/-- A row's block differs from a block of another type. -/
theorem own_ne {w : World} {B sz : Nat} {e T : TypeId} {v : Value} {n : Nat} {xs : List Value} {b : Nat} {cs : Array Value} {fr : Nat × Nat} (hown : w.ownsRow B e sz v n xs) (hb : w.heap[b]? = some (.cells cs T fr)) (hTe : T ≠ e) : v.ownBlock ≠ some b := by
  intro he
  rcases hown.2 with ⟨rfl, _⟩ | ⟨g, cap, cur, rfl, _, hg, _⟩
  · cases he
  · simp only [Value.ownBlock, Option.some.injEq] at he
    subst he
    rw [hb] at hg
    cases hg
    exact hTe rfl
set_option maxRecDepth 100000 in
set_option maxHeartbeats 4000000 in
theorem policy_any {W0 w : World} {g : Nat} {a : Option Addr} {len cap : Nat} {zs : List Int} (h : Src.Di W0 w g a len cap zs) :
    Calls Try.prog 7 #[.pointer (some ⟨g, 0, none⟩)] w fun e w' => (∃ (gb n c : Nat) (M P F E : Nat → Int) (Ds Ev : Int), e = .returned (.agg #[.slice (some ⟨gb, 0, none⟩) n c, .int .i64 Ds, .int .i64 Ev]) ∧ RW w' gb n c M P F E ∧ n ≤ 3 ∧ 0 ≤ Ds ∧ Ds ≤ 1000 ∧ 0 ≤ Ev ∧ Ev ≤ 500 ∧ w.heap.size ≤ gb) ∧ Src.Left W0 w w' g a len cap zs := by
  have H := Lib.hid h
  have hne : Hid (w.heap.size ≠ g) := Lib.hid (by have := h.lt; omega)
  have L0 := Lib.hid ((Src.Left.refl h).alloc (.cells #[.slice none 0 0, .int .i64 0, .int .i64 0] 27))
  have p0 := Lib.hid (Geo.blk_new w (.cells #[.slice none 0 0, .int .i64 0, .int .i64 0] 27))
  have hlt0 := h.lt
  clear h
  go_enter Try.func7, Try.ntmps7
  obtain ⟨w0, hw0⟩ : ∃ w0, w0 = w.alloc (.cells #[.slice none 0 0, .int .i64 0, .int .i64 0] 27) := ⟨_, rfl⟩
  rw [← hw0] at p0 L0
  have I1 := Lib.hid (Src.ints_alloc w0 [0, 2, 10, 1000] 3)
  have n1 := L0.out.di.lt
  have z0 : w0.heap.size = w.heap.size + 1 := by rw [hw0]; simp
  rw [z0] at I1
  go_wp2_with fail
  rw [← hw0]
  clear hw0
  refine (Src.pick_any (w.heap.size + 1) [0, 2, 10, 1000] 4 4 (L0.out.alloc _).di I1.out rfl (by omega) (by omega) (by omega) (by simp; try omega)).mono ?_
  rintro e w1 ⟨⟨x1, rfl, hx1⟩, hl⟩
  replace p0 := Lib.hid (hl.blk (Geo.blk_alloc p0.out _) hne.out)
  replace L0 := Lib.hid ((L0.out.alloc _).trans hl)
  simp only [List.mem_cons, List.not_mem_nil, or_false] at hx1
  clear hl I1 n1
  have I1 := Lib.hid (Src.ints_alloc w1 [0, 0, 50, 500] 3)
  have n1 := L0.out.di.lt
  go_wp2_with fail
  refine (Src.pick_any w1.heap.size [0, 0, 50, 500] 4 4 (L0.out.alloc _).di I1.out rfl (by omega) (by omega) (by omega) (by simp; try omega)).mono ?_
  rintro e w2 ⟨⟨x2, rfl, hx2⟩, hl⟩
  replace p0 := Lib.hid (hl.blk (Geo.blk_alloc p0.out _) hne.out)
  replace L0 := Lib.hid ((L0.out.alloc _).trans hl)
  simp only [List.mem_cons, List.not_mem_nil, or_false] at hx2
  clear hl I1 n1
  have dD : 0 ≤ x1 ∧ x1 ≤ 1000 := by omega
  have dE : 0 ≤ x2 ∧ x2 ≤ 500 := by omega
  clear hx1 hx2
  obtain ⟨bp, hbp⟩ : ∃ bp, bp = w2.heap.size := ⟨_, rfl⟩
  have lt2 := L0.out.di.lt
  have sz2 := L0.out.far.size
  have nbp : bp ≠ g := by omega
  have hbpw : w.heap.size ≠ bp := by have := (Array.getElem?_eq_some_iff.1 p0.out).1; omega
  have q1 := Lib.hid (show (w2.alloc (.cells #[.slice none 0 0, .int .i64 x1, .int .i64 x2] 27)).heap[bp]? = some (.cells #[.slice none 0 0, .int .i64 x1, .int .i64 x2] 27 (0, 0)) by rw [hbp]; exact Geo.blk_new _ _)
  replace p0 := Lib.hid (Geo.blk_alloc p0.out (.cells #[.slice none 0 0, .int .i64 x1, .int .i64 x2] 27))
  replace L0 := Lib.hid (L0.out.alloc (.cells #[.slice none 0 0, .int .i64 x1, .int .i64 x2] 27))
  go_wp2_with (go_at_call 9; refine (Src.n_any 3 L0.out.di (by omega) (by omega)).mono ?_; rintro e w3 ⟨⟨m0, rfl, m1, m2⟩, hl⟩)
  replace p0 := Lib.hid (hl.blk p0.out hne.out)
  replace q1 := Lib.hid (hl.blk q1.out nbp)
  replace L0 := Lib.hid (L0.out.trans hl)
  rw [← hbp]
  have hbp1 : w.heap.size ≤ bp := by omega
  clear hl hbp
  obtain ⟨k0, hk0, hk3⟩ : ∃ k0 : Nat, m0 = (k0 : Int) ∧ k0 < 3 := ⟨m0.toNat, by omega, by omega⟩
  obtain rfl := hk0
  obtain ⟨i0, hi, hz0, hz1, hz2⟩ : ∃ i, Try.prog.info? 48 = some i ∧ i.zero = some (.agg #[.int .i64 0, .int .i64 0, .int .i64 0, .int .i64 0]) ∧ i.size = 4 ∧ i.bytes = 32 := ⟨_, rfl, by kernel_rfl, by kernel_rfl, by kernel_rfl⟩
  go_loopw [4] (fun s4 wr => ∃ (m : Nat) (rs : List (Int × Int × Int × Int)) (rv : Value), s4 = .int .i64 (m : Int) ∧ rs.length + m = k0 + 1 ∧ Hid (wr.heap[bp]? = some (.cells #[rv, .int .i64 x1, .int .i64 x2] 27 (0, 0))) ∧ Hid (wr.heap[w.heap.size]? = some (.cells #[.slice none 0 0, .int .i64 0, .int .i64 0] 27 (0, 0))) ∧ Hid (wr.ownsRow w.heap.size 48 4 rv rs.length (cells4 rs)) ∧ Hid (Src.Left W0 w wr g a len cap zs) ∧ Hid (∀ r ∈ rs, Rok r)) (fun s4 _ => (intOf s4).toNat)
  case atStart => exact ⟨k0 + 1, [], _, by push_cast; congr 1; omega, by simp, q1, p0, Lib.hid (World.ownsRow_nil _ _ _ _), L0, Lib.hid (by simp)⟩
  case round =>
    clear p0 q1 L0
    obtain ⟨m, rs, rv, rfl, hm, P1, P0, O, L, RO⟩ := hrel
    have hwr := L.out.far.size
    have hgr := L.out.di.lt
    by_cases hlt : 0 < m
    · have hlt' : (0 : Int) < m := by omega
      obtain ⟨pq, hgR⟩ : ∃ p : Nat, Hid (wr.heap[g]? = some (.cells #[.slice a len cap, .int .i64 p] 59 (0, 0))) := by obtain ⟨p, _, h⟩ := L.out.di.blk; exact ⟨p, h⟩
      go_wp2_with fail
      refine wp_region_noPanic ?_
      refine wp_region_any (by kernel_rfl) ?_
      have hw0 : Src.Left W0 wr wr.drew g a len cap zs := (Src.Left.refl L.out.di).drew
      have cp : ∀ w', Src.Left W0 wr w' g a len cap zs → w'.cell? ⟨bp, 0, none⟩ = some rv := fun w' hl => (tri (hl.blk P1.out nbp)).1
      refine Inv.wpAny_inv (fun k => k == 16 || k == 17 || k == 18) [19, 20, 21, 22, 23, 24, 25, 26, 27, 28, 29, 30, 31, 32, 33, 34] (fun w' => Src.Left W0 wr w' g a len cap zs) (fun _ w1 w2 => w1.grownBy w2 (some g)) (fun k => ([fun v w => v = .pointer (some ⟨bp, 0, none⟩), fun v w => v = rv, fun v w => v = .pointer (some ⟨g, 0, none⟩), fun v w => ∃ n : Int, v = .int .i64 n ∧ 0 ≤ n ∧ n < 400, fun v w => ∃ n : Int, v = .int .i64 n ∧ -100 ≤ n ∧ n < 300, fun v w => v = .pointer (some ⟨g, 0, none⟩), fun v w => ∃ n : Int, v = .int .i64 n ∧ 0 ≤ n ∧ n < 4, fun v w => ∃ n : Int, v = .int .i64 n ∧ 1 ≤ n ∧ n ≤ 4, fun v w => v = .pointer (some ⟨g, 0, none⟩), fun v w => LitI g [0, 10, 100, 10000] v w, fun v w => ∃ n : Int, v = .int .i64 n ∧ 0 ≤ n ∧ n ≤ 10000, fun v w => v = .pointer (some ⟨g, 0, none⟩), fun v w => LitI g [0, 500, 2000, 100000] v w, fun v w => ∃ n : Int, v = .int .i64 n ∧ 0 ≤ n ∧ n ≤ 100000, fun v w => ∃ x y z u : Int, v = .agg #[.int .i64 x, .int .i64 y, .int .i64 z, .int .i64 u] ∧ Rok (x, y, z, u), fun v w => LitR g wr.heap.size v w, fun v w => True, fun v w => True, fun v w => True] : List (Value → World → Prop)).getD k (fun _ _ => True)) _ (fun σ => by simp only [Inv.putAll, List.foldl_cons, List.foldl_nil, Act.put, List.setIfInBounds_toArray, List.set_cons_zero, List.set_cons_succ]; rfl) (by kernel_rfl) (by kernel_rfl) ?_ hw0 ?_ ?_ 3 #[true, true, true, true, true, true, true, true, true, true, true, true, true, true, true, true, false, false, false] (by kernel_rfl) (by kernel_rfl) ?_
      · intro j k v w1 w2 hjk hv hr
        rcases k with _ | k
        · exact hv
        rcases k with _ | k
        · exact hv
        rcases k with _ | k
        · exact hv
        rcases k with _ | k
        · exact hv
        rcases k with _ | k
        · exact hv
        rcases k with _ | k
        · exact hv
        rcases k with _ | k
        · exact hv
        rcases k with _ | k
        · exact hv
        rcases k with _ | k
        · exact hv
        rcases k with _ | k
        · exact LitI.stab hv hr
        rcases k with _ | k
        · exact hv
        rcases k with _ | k
        · exact hv
        rcases k with _ | k
        · exact LitI.stab hv hr
        rcases k with _ | k
        · exact hv
        rcases k with _ | k
        · exact hv
        rcases k with _ | k
        · exact LitR.stab hv hr
        rcases k with _ | k
        · exact hv
        rcases k with _ | k
        · exact hv
        rcases k with _ | k
        · exact hv
        · exact hv
      · intro k t hl hd
        rcases k with _ | k
        · exact absurd hl (by decide +kernel)
        rcases k with _ | k
        · exact absurd hl (by decide +kernel)
        rcases k with _ | k
        · exact absurd hl (by decide +kernel)
        rcases k with _ | k
        · exact absurd hl (by decide +kernel)
        rcases k with _ | k
        · exact absurd hl (by decide +kernel)
        rcases k with _ | k
        · exact absurd hl (by decide +kernel)
        rcases k with _ | k
        · exact absurd hl (by decide +kernel)
        rcases k with _ | k
        · exact absurd hl (by decide +kernel)
        rcases k with _ | k
        · exact absurd hl (by decide +kernel)
        rcases k with _ | k
        · exact absurd hl (by decide +kernel)
        rcases k with _ | k
        · exact absurd hl (by decide +kernel)
        rcases k with _ | k
        · exact absurd hl (by decide +kernel)
        rcases k with _ | k
        · exact absurd hl (by decide +kernel)
        rcases k with _ | k
        · exact absurd hl (by decide +kernel)
        rcases k with _ | k
        · exact absurd hl (by decide +kernel)
        rcases k with _ | k
        · exact absurd hl (by decide +kernel)
        rcases k with _ | k
        · exact absurd hl (by decide +kernel)
        rcases k with _ | k
        · exact absurd hl (by decide +kernel)
        rcases k with _ | k
        · exact absurd hl (by decide +kernel)
        · simp at hd
      · show Inv.Steps _ _ _ _ _ _ _ _ [0, 1, 2, 3, 4, 5, 6, 7, 8, 9, 10, 11, 12, 13, 14, 15]
        refine Inv.Steps.go (by decide) (by rfl) (fun σ wx hw hd K hK => ?_) ?_
        · simp only [List.getElem_toArray, List.getElem_cons_zero, List.getElem_cons_succ, Act.put, List.setIfInBounds_toArray, List.set_cons_zero, List.set_cons_succ] at hK ⊢
          go_simp
          exact hK.out _ _ hw (Src.grown_of_below (Below.refl _ _)) (rfl)
        refine Inv.Steps.go (by decide) (by rfl) (fun σ wx hw hd K hK => ?_) ?_
        · obtain e19 : (σ 19) = .pointer (some ⟨bp, 0, none⟩) := hd 0 (some 19) (by kernel_rfl) (by rfl)
          simp only [List.getElem_toArray, List.getElem_cons_zero, List.getElem_cons_succ, Act.put, List.setIfInBounds_toArray, List.set_cons_zero, List.set_cons_succ, e19] at hK ⊢
          have hc := cp wx hw
          go_simp
          exact hK.out _ _ hw (Src.grown_of_below (Below.refl _ _)) (rfl)
        refine Inv.Steps.go (by decide) (by rfl) (fun σ wx hw hd K hK => ?_) ?_
        · simp only [List.getElem_toArray, List.getElem_cons_zero, List.getElem_cons_succ, Act.put, List.setIfInBounds_toArray, List.set_cons_zero, List.set_cons_succ] at hK ⊢
          go_simp
          exact hK.out _ _ hw (Src.grown_of_below (Below.refl _ _)) (rfl)
        refine Inv.Steps.go (by decide) (by rfl) (fun σ wx hw hd K hK => ?_) ?_
        · obtain e21 : (σ 21) = .pointer (some ⟨g, 0, none⟩) := hd 2 (some 21) (by kernel_rfl) (by rfl)
          simp only [List.getElem_toArray, List.getElem_cons_zero, List.getElem_cons_succ, Act.put, List.setIfInBounds_toArray, List.set_cons_zero, List.set_cons_succ, e21] at hK ⊢
          go_simp
          go_at_call 9
          refine (Src.n_any 400 hw.di (by omega) (by omega)).mono ?_
          rintro e w1 ⟨⟨v, rfl, v0, v1⟩, hl⟩
          dsimp only
          exact hK.out _ _ (hw.trans hl) hl.far (⟨_, rfl, v0, v1⟩)
        refine Inv.Steps.go (by decide) (by rfl) (fun σ wx hw hd K hK => ?_) ?_
        · obtain ⟨v22, e22, a22, b22⟩ : ∃ n : Int, (σ 22) = .int .i64 n ∧ 0 ≤ n ∧ n < 400 := hd 3 (some 22) (by kernel_rfl) (by rfl)
          simp only [List.getElem_toArray, List.getElem_cons_zero, List.getElem_cons_succ, Act.put, List.setIfInBounds_toArray, List.set_cons_zero, List.set_cons_succ, e22] at hK ⊢
          go_simp
          rw [IntWalk.i64_in (v22 - 100) (by omega)]
          exact hK.out _ _ hw (Src.grown_of_below (Below.refl _ _)) (⟨_, rfl, by omega, by omega⟩)
        refine Inv.Steps.go (by decide) (by rfl) (fun σ wx hw hd K hK => ?_) ?_
        · simp only [List.getElem_toArray, List.getElem_cons_zero, List.getElem_cons_succ, Act.put, List.setIfInBounds_toArray, List.set_cons_zero, List.set_cons_succ] at hK ⊢
          go_simp
          exact hK.out _ _ hw (Src.grown_of_below (Below.refl _ _)) (rfl)
        refine Inv.Steps.go (by decide) (by rfl) (fun σ wx hw hd K hK => ?_) ?_
        · obtain e24 : (σ 24) = .pointer (some ⟨g, 0, none⟩) := hd 5 (some 24) (by kernel_rfl) (by rfl)
          simp only [List.getElem_toArray, List.getElem_cons_zero, List.getElem_cons_succ, Act.put, List.setIfInBounds_toArray, List.set_cons_zero, List.set_cons_succ, e24] at hK ⊢
          go_simp
          go_at_call 9
          refine (Src.n_any 4 hw.di (by omega) (by omega)).mono ?_
          rintro e w1 ⟨⟨v, rfl, v0, v1⟩, hl⟩
          dsimp only
          exact hK.out _ _ (hw.trans hl) hl.far (⟨_, rfl, v0, v1⟩)
        refine Inv.Steps.go (by decide) (by rfl) (fun σ wx hw hd K hK => ?_) ?_
        · obtain ⟨v25, e25, a25, b25⟩ : ∃ n : Int, (σ 25) = .int .i64 n ∧ 0 ≤ n ∧ n < 4 := hd 6 (some 25) (by kernel_rfl) (by rfl)
          simp only [List.getElem_toArray, List.getElem_cons_zero, List.getElem_cons_succ, Act.put, List.setIfInBounds_toArray, List.set_cons_zero, List.set_cons_succ, e25] at hK ⊢
          go_simp
          rw [IntWalk.i64_in (1 + v25) (by omega)]
          exact hK.out _ _ hw (Src.grown_of_below (Below.refl _ _)) (⟨_, rfl, by omega, by omega⟩)
        refine Inv.Steps.go (by decide) (by rfl) (fun σ wx hw hd K hK => ?_) ?_
        · simp only [List.getElem_toArray, List.getElem_cons_zero, List.getElem_cons_succ, Act.put, List.setIfInBounds_toArray, List.set_cons_zero, List.set_cons_succ] at hK ⊢
          go_simp
          exact hK.out _ _ hw (Src.grown_of_below (Below.refl _ _)) (rfl)
        refine Inv.Steps.go (by decide) (by rfl) (fun σ wx hw hd K hK => ?_) ?_
        · simp only [List.getElem_toArray, List.getElem_cons_zero, List.getElem_cons_succ, Act.put, List.setIfInBounds_toArray, List.set_cons_zero, List.set_cons_succ] at hK ⊢
          have J := Src.ints_alloc wx [0, 10, 100, 10000] 3
          have hne := hw.di.lt
          go_simp
          exact hK.out _ _ (hw.alloc _) (Src.grown_of_below ((Below.refl wx.heap.size wx).alloc (Nat.le_refl _) _) : World.grownBy wx _ (some g)) (⟨wx.heap.size, rfl, by omega, by simp, by simpa using J⟩)
        refine Inv.Steps.go (by decide) (by rfl) (fun σ wx hw hd K hK => ?_) ?_
        · obtain e27 : (σ 27) = .pointer (some ⟨g, 0, none⟩) := hd 8 (some 27) (by kernel_rfl) (by rfl)
          obtain ⟨b28, e28, n28, l28, i28⟩ : LitI g [0, 10, 100, 10000] (σ 28) wx := hd 9 (some 28) (by kernel_rfl) (by rfl)
          simp only [List.getElem_toArray, List.getElem_cons_zero, List.getElem_cons_succ, Act.put, List.setIfInBounds_toArray, List.set_cons_zero, List.set_cons_succ, e27, e28] at hK ⊢
          have hne := hw.di.lt
          go_simp
          go_at_call 16
          refine (Src.pick_any b28 [0, 10, 100, 10000] 4 4 hw.di i28 rfl (by omega) (by omega) n28 l28).mono ?_
          rintro e w1 ⟨⟨v, rfl, hv⟩, hl⟩
          dsimp only
          simp only [List.mem_cons, List.not_mem_nil, or_false] at hv
          exact hK.out _ _ (hw.trans hl) hl.far (⟨_, rfl, by omega, by omega⟩)
        refine Inv.Steps.go (by decide) (by rfl) (fun σ wx hw hd K hK => ?_) ?_
        · simp only [List.getElem_toArray, List.getElem_cons_zero, List.getElem_cons_succ, Act.put, List.setIfInBounds_toArray, List.set_cons_zero, List.set_cons_succ] at hK ⊢
          go_simp
          exact hK.out _ _ hw (Src.grown_of_below (Below.refl _ _)) (rfl)
        refine Inv.Steps.go (by decide) (by rfl) (fun σ wx hw hd K hK => ?_) ?_
        · simp only [List.getElem_toArray, List.getElem_cons_zero, List.getElem_cons_succ, Act.put, List.setIfInBounds_toArray, List.set_cons_zero, List.set_cons_succ] at hK ⊢
          have J := Src.ints_alloc wx [0, 500, 2000, 100000] 3
          have hne := hw.di.lt
          go_simp
          exact hK.out _ _ (hw.alloc _) (Src.grown_of_below ((Below.refl wx.heap.size wx).alloc (Nat.le_refl _) _) : World.grownBy wx _ (some g)) (⟨wx.heap.size, rfl, by omega, by simp, by simpa using J⟩)
        refine Inv.Steps.go (by decide) (by rfl) (fun σ wx hw hd K hK => ?_) ?_
        · obtain e30 : (σ 30) = .pointer (some ⟨g, 0, none⟩) := hd 11 (some 30) (by kernel_rfl) (by rfl)
          obtain ⟨b31, e31, n31, l31, i31⟩ : LitI g [0, 500, 2000, 100000] (σ 31) wx := hd 12 (some 31) (by kernel_rfl) (by rfl)
          simp only [List.getElem_toArray, List.getElem_cons_zero, List.getElem_cons_succ, Act.put, List.setIfInBounds_toArray, List.set_cons_zero, List.set_cons_succ, e30, e31] at hK ⊢
          have hne := hw.di.lt
          go_simp
          go_at_call 16
          refine (Src.pick_any b31 [0, 500, 2000, 100000] 4 4 hw.di i31 rfl (by omega) (by omega) n31 l31).mono ?_
          rintro e w1 ⟨⟨v, rfl, hv⟩, hl⟩
          dsimp only
          simp only [List.mem_cons, List.not_mem_nil, or_false] at hv
          exact hK.out _ _ (hw.trans hl) hl.far (⟨_, rfl, by omega, by omega⟩)
        refine Inv.Steps.go (by decide) (by rfl) (fun σ wx hw hd K hK => ?_) ?_
        · obtain ⟨v23, e23, a23, b23⟩ : ∃ n : Int, (σ 23) = .int .i64 n ∧ -100 ≤ n ∧ n < 300 := hd 4 (some 23) (by kernel_rfl) (by rfl)
          obtain ⟨v26, e26, a26, b26⟩ : ∃ n : Int, (σ 26) = .int .i64 n ∧ 1 ≤ n ∧ n ≤ 4 := hd 7 (some 26) (by kernel_rfl) (by rfl)
          obtain ⟨v29, e29, a29, b29⟩ : ∃ n : Int, (σ 29) = .int .i64 n ∧ 0 ≤ n ∧ n ≤ 10000 := hd 10 (some 29) (by kernel_rfl) (by rfl)
          obtain ⟨v32, e32, a32, b32⟩ : ∃ n : Int, (σ 32) = .int .i64 n ∧ 0 ≤ n ∧ n ≤ 100000 := hd 13 (some 32) (by kernel_rfl) (by rfl)
          simp only [List.getElem_toArray, List.getElem_cons_zero, List.getElem_cons_succ, Act.put, List.setIfInBounds_toArray, List.set_cons_zero, List.set_cons_succ, e23, e26, e29, e32] at hK ⊢
          go_simp
          exact hK.out _ _ hw (Src.grown_of_below (Below.refl _ _)) (⟨_, _, _, _, rfl, by unfold Rok; simp only; omega⟩)
        refine Inv.Steps.go (by decide) (by rfl) (fun σ wx hw hd K hK => ?_) ?_
        · obtain ⟨x33, y33, z33, u33, e33, r33⟩ : ∃ x y z u : Int, (σ 33) = .agg #[.int .i64 x, .int .i64 y, .int .i64 z, .int .i64 u] ∧ Rok (x, y, z, u) := hd 14 (some 33) (by kernel_rfl) (by rfl)
          simp only [List.getElem_toArray, List.getElem_cons_zero, List.getElem_cons_succ, Act.put, List.setIfInBounds_toArray, List.set_cons_zero, List.set_cons_succ, e33] at hK ⊢
          have hne := hw.di.lt
          have hsz := hw.far.size
          go_simp
          exact hK.out _ _ (hw.alloc _) (Src.grown_of_below ((Below.refl wx.heap.size wx).alloc (Nat.le_refl _) _) : World.grownBy wx _ (some g)) (⟨wx.heap.size, _, _, _, _, rfl, by omega, hsz, by simp, heap_alloc_new _ _, r33⟩)
        exact Inv.Steps.nil
      · intro σ wx hw hd
        obtain e20 : (σ 20) = rv := hd 1 (some 20) (by rfl) (by rfl)
        obtain ⟨b34, x34, y34, z34, u34, e34, n34, s34, l34, c34, r34⟩ : LitR g wr.heap.size (σ 34) wx := hd 15 (some 34) (by rfl) (by rfl)
        have O1 := own_kept O.out (fun k hk => hw.far.block k (O.out.lt k hk).2 (by have := own_ne O.out (b := g) (hgR.out) (by decide); intro he; rw [← he] at this; exact this hk))
        have hsz := hw.far.size
        refine Inv.one (i := 16) (by decide) (by kernel_rfl) (by rfl) (fun K hK => ?_)
        simp only [List.getElem_toArray, List.getElem_cons_zero, List.getElem_cons_succ, Act.put, List.setIfInBounds_toArray, List.set_cons_zero, List.set_cons_succ, e20, e34] at hK ⊢
        refine wp_append_lies wx (.tmp 20) (.tmp 34) 25 rfl w.heap.size 48 i0 (.agg #[.int .i64 0, .int .i64 0, .int .i64 0, .int .i64 0]) 4 32 Try.underlying25 hi hz0 hz1 hz2 (by rfl) (by decide) rv rs.length (cells4 rs) rfl O1 ⟨b34, 0, none⟩ 1 1 [.int .i64 x34, .int .i64 y34, .int .i64 z34, .int .i64 u34] rfl rfl (World.news_of_block c34) (by simp [Value.oneCell']) (by decide) (by unfold maxLen; omega) (by omega) (by omega) _ rfl (fun gq cq w2 O2 G2 hg2 hl2 => ?_)
        refine hK.out _ _ ?_
        clear hK K
        have P2 := (G2.block bp (by have := (Array.getElem?_eq_some_iff.1 (hw.blk P1.out nbp)).1; exact this) (Ne.symm (own_ne O1 (hw.blk P1.out nbp) (by decide)))).trans (hw.blk P1.out nbp)
        have P3 := (G2.block w.heap.size (by have := (Array.getElem?_eq_some_iff.1 (hw.blk P0.out hne.out)).1; exact this) (Ne.symm (own_ne O1 (hw.blk P0.out hne.out) (by decide)))).trans (hw.blk P0.out hne.out)
        obtain ⟨c0, c1, c2, f0, f1, f2⟩ := Geo.cells3 P2
        refine Inv.one (i := 17) (by decide) (by kernel_rfl) (by rfl) (fun K hK => ?_)
        simp only [List.getElem_toArray, List.getElem_cons_zero, List.getElem_cons_succ, Act.put, List.setIfInBounds_toArray, List.set_cons_zero, List.set_cons_succ] at hK ⊢
        go_simp
        refine hK.out _ _ ?_
        clear hK K
        refine Inv.one (i := 18) (by decide) (by kernel_rfl) (by rfl) (fun K hK => ?_)
        simp only [List.getElem_toArray, List.getElem_cons_zero, List.getElem_cons_succ, Act.put, List.setIfInBounds_toArray, List.set_cons_zero, List.set_cons_succ] at hK ⊢
        go_simp
        refine hK.out _ _ (Inv.done (by kernel_rfl) (NoPanic.normal ?_))
        clear hK K
        have B2 : Below w.heap.size wx w2 := ⟨G2.os, G2.tape, G2.output, G2.size, fun k hk => G2.block k (by omega) (fun he => by have := (O1.lt k he.symm).1; omega)⟩
        have Q1 := Lib.hid ((heap_setCell_same w2 bp 0 _ _ (.slice (some ⟨gq, 0, none⟩) (rs.length + 1) cq) P2).trans rfl)
        have Q0 := Lib.hid ((Below.heap_setCell w2 ⟨bp, 0, none⟩ (.slice (some ⟨gq, 0, none⟩) (rs.length + 1) cq) w.heap.size hbpw).trans P3)
        have ngq := own_ne O2 P2 (by decide)
        have O3 := Lib.hid (own_kept (w' := w2.setCell ⟨bp, 0, none⟩ (.slice (some ⟨gq, 0, none⟩) (rs.length + 1) cq)) O2 (fun k hk => Below.heap_setCell w2 _ _ k (fun he => by subst he; exact ngq hk)))
        have L3 := Lib.hid (Src.Left.past H.out (L.out.trans hw) (B2.setCell (p := ⟨bp, 0, none⟩) hbp1 (.slice (some ⟨gq, 0, none⟩) (rs.length + 1) cq)))
        have RO3 : Hid (∀ r ∈ rs ++ [(x34, y34, z34, u34)], Rok r) := Lib.hid (fun r hr => (List.mem_append.1 hr).elim (RO.out r) (fun e => by simp at e; subst e; exact r34))
        rw [← cells4_snoc] at O3
        clear O1 O2 G2 P2 P3 c0 c1 c2 f0 f1 f2 hg2 hl2 ngq B2 hw hd c34 r34
        generalize w2.setCell ⟨bp, 0, none⟩ (.slice (some ⟨gq, 0, none⟩) (rs.length + 1) cq) = w3_ at *
        obtain ⟨m1, rfl⟩ : ∃ m1, m = m1 + 1 := ⟨m - 1, by omega⟩
        go_wp2_with fail
        go_roundw
        case rel => exact ⟨m1, rs ++ [(x34, y34, z34, u34)], _, by go_num, by simp; omega, (by simpa using Q1), Q0, (by simpa using O3), L3, RO3⟩
        case measure => simp [intOf]
    · obtain rfl : m = 0 := by omega
      obtain ⟨c0, c1, c2, f0, f1, f2⟩ := Geo.cells3 P1.out
      obtain ⟨d0, d1, d2, e0, e1, e2⟩ := Geo.cells3 P0.out
      have nO := own_ne O.out P0.out (by decide)
      obtain ⟨gb, cb, rfl, hgb, hgl⟩ := O.out.form (by omega)
      have O5 := own_kept (w' := (((wr.setCell ⟨w.heap.size, 0, none⟩ (.slice (some ⟨gb, 0, none⟩) rs.length cb)).setCell ⟨w.heap.size, 1, none⟩ (.int .i64 x1)).setCell ⟨w.heap.size, 2, none⟩ (.int .i64 x2))) O.out (fun k hk => Geo.st3_other wr (fun he => by subst he; exact nO hk) _ _ _)
      have RWf := Lib.hid (rw_of O5 (by omega) (by omega) RO.out)
      clear O5
      go_wp2
      exact bodyPost_ret (results_cell_row rfl _ _ w.heap.size _ _ _ _ rfl (Geo.st3 P0.out _ _ _) rfl (by rfl) rfl) rfl ⟨⟨gb, _, cb, _, _, _, _, x1, x2, rfl, RWf.out, by omega, by omega, by omega, by omega, by omega, hgb⟩, Src.Left.past H.out L.out (Geo.st3_below (Below.refl _ _) (Nat.le_refl _) _ _ _)⟩
end Ru
end Go.Proofs.Yticjmblajloefaa
