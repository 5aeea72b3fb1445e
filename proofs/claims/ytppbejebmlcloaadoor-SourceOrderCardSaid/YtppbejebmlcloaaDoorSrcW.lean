/- source.Sort. -/
import Derived.Test.YtppbejebmlcloaaDoorSrcV
set_option linter.unusedVariables false
set_option linter.unusedSimpArgs false
namespace Go.Proofs.YtppbejebmlcloaaDoor
open Go.RowKit Dice
namespace Sc
/-- A sorted list without repetitions that can be read. -/
structure SortedQ (w : World) (v : Value) (L M : List Q4) (g c n : Nat) : Prop where
  val : v = .slice (some ⟨g, 0, none⟩) n c
  len : n = M.length
  nc : n ≤ c
  cm : c ≤ maxLen
  ge : 1 ≤ n
  le : n ≤ L.length
  strict : M.Pairwise (fun p q => cf p q < 0)
  mem : ∀ x, x ∈ M ↔ x ∈ L
  cells : ∀ (i : Nat) (q : Q4), M[i]? = some q → w.cell? ⟨g, i * 4, none⟩ = some (.string ⟨⟨q.1⟩⟩) ∧ w.cell? ⟨g, i * 4 + 1, none⟩ = some (.string ⟨⟨q.2.1⟩⟩) ∧ w.cell? ⟨g, i * 4 + 2, none⟩ = some (.string ⟨⟨q.2.2.1⟩⟩) ∧ w.cell? ⟨g, i * 4 + 3, none⟩ = some (.string ⟨⟨q.2.2.2⟩⟩)
  blk : g < w.heap.size
theorem SortedQ.below {w w' : World} {v : Value} {L M : List Q4} {g c n : Nat} (h : SortedQ w v L M g c n) (hb' : Below w.heap.size w w') : SortedQ w' v L M g c n :=
  ⟨h.val, h.len, h.nc, h.cm, h.ge, h.le, h.strict, h.mem, fun i q hq => by
    obtain ⟨a, b, d, e⟩ := h.cells i q hq
    have hc : ∀ o, w'.cell? ⟨g, o, none⟩ = w.cell? ⟨g, o, none⟩ := fun o => hb'.cell (p := ⟨g, o, none⟩) h.blk
    exact ⟨(hc _).trans a, (hc _).trans b, (hc _).trans d, (hc _).trans e⟩, Nat.lt_of_lt_of_le h.blk hb'.size⟩
theorem sortQ_any {w : World} {g0 n : Nat} {L : List Q4} (hn : n = L.length) (K : w.heap[g0]? = some (.cells (cQ L).toArray 28 (0, 0))) (h2 : 2 ≤ n) (h9 : n ≤ 100) :
    Calls Tryd.prog 14 #[.slice (some ⟨g0, 0, none⟩) n n] w fun e w' => (∃ (v : Value) (M : List Q4) (g c m : Nat), e = .returned v ∧ SortedQ w' v L M g c m) ∧ Below w.heap.size w w' := by
  have CL := Lib.hid (clone_any n hn K h9)
  replace hn := Lib.hid hn
  clear K
  go_enter Tryd.func14, Tryd.ntmps14
  go_wp2_with fail
  refine CL.out.mono ?_
  rintro e w1 ⟨⟨r, rfl, O1⟩, b1⟩
  unfold OwnQ at O1
  rw [← hn.out] at O1
  obtain ⟨g, c, rfl, hgl, hgw, hnc, hcm⟩ : ∃ g c, r = .slice (some ⟨g, 0, none⟩) n c ∧ w.heap.size ≤ g ∧ g < w1.heap.size ∧ n ≤ c ∧ c ≤ maxLen := by
    rcases O1.2 with ⟨_, h0⟩ | ⟨g, cap, cur, rfl, k1, k2, k3, k4, _⟩
    · omega
    · exact ⟨g, cap, rfl, k1, (Array.getElem?_eq_some_iff.1 k2).1, k3, k4⟩
  have SO := Lib.hid (sort_any hn.out (by omega) O1 hgw)
  replace O1 := Lib.hid O1
  replace b1 := Lib.hid b1
  clear CL
  go_wp2_with fail
  refine SO.out.mono ?_
  rintro e w2 ⟨rfl, L', hl, hp, hs, O2, g2⟩
  have CO := Lib.hid (compact_any hl.symm h2 h9 hgl O2 hnc hcm)
  have B2 := Lib.hid (b1.out.grown g2 b1.out.size fun k hk => by cases hk; exact hgl)
  replace hl := Lib.hid hl
  replace hs := Lib.hid hs
  replace O2 := Lib.hid O2
  clear SO g2
  go_wp2_with fail
  refine CO.out.mono ?_
  rintro e w3 ⟨⟨k, rfl, hk, hkn, hcl⟩, g3⟩
  have B3 := Lib.hid (B2.out.grown g3 B2.out.size fun k hk => by cases hk; exact hgl)
  have hgw3 : g < w3.heap.size := Nat.lt_of_lt_of_le (O2.out.lt g rfl).2 g3.size
  have hne : L' ≠ [] := fun e => by have := hl.out; rw [e] at this; simp at this; omega
  replace hk := Lib.hid hk
  replace hcl := Lib.hid hcl
  clear CO g3 hne
  go_wp2_with fail
  go_ret
  have hne : L' ≠ [] := fun e => by have := hl.out; rw [e] at this; simp at this; omega
  refine ⟨⟨_, cmpct (L'.take L'.length), g, c, k, rfl, ⟨rfl, hk.out, by omega, hcm, by have := cmpct_ge L' hne; have := hk.out; omega, by have := hn.out; omega, cmpct_strict L' hs.out L'.length, fun x => ?_, hcl.out, hgw3⟩⟩, B3.out⟩
  rw [cmpct_mem L' x L'.length, List.take_length]
  exact hp.symm.mem_iff
end Sc
end Go.Proofs.YtppbejebmlcloaaDoor
