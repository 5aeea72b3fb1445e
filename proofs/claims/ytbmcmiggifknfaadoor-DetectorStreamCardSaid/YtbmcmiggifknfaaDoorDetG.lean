/- Triggers that are read; the example of law 22. -/
import Derived.Test.YtbmcmiggifknfaaDoorDetE
import Derived.Laws.StructEq
set_option linter.unusedVariables false
set_option linter.unusedSimpArgs false
namespace Go.Proofs.YtbmcmiggifknfaaDoor
open Go.RowKit Wi Dice
namespace Det
theorem tri_read {B : Nat} {w : World} {v : Value} {l : List Tr} (h : w.ownsRow B 32 3 v l.length (row l)) (h0 : 0 < l.length) :
    ∃ g cap, v = .slice (some ⟨g, 0, none⟩) l.length cap ∧ l.length ≤ cap ∧ cap ≤ maxLen ∧ g < w.heap.size ∧ ∀ k t, l[k]? = some t → w.cell? ⟨g, k * 3, none⟩ = some (.int .i64 t.on) ∧ w.cell? ⟨g, k * 3 + 1, none⟩ = some (.int .i64 t.off) ∧ w.cell? ⟨g, k * 3 + 2, none⟩ = some (.int .i64 t.pk) := by
  rcases h.2 with ⟨_, hn⟩ | ⟨g, cap, cur, rfl, _, hg, hc, hm, _, ht⟩
  · omega
  · refine ⟨g, cap, rfl, hc, hm, (Array.getElem?_eq_some_iff.1 hg).1, fun k t hk => ?_⟩
    have hk9 : k < l.length := (List.getElem?_eq_some_iff.1 hk).1
    have hj : ∀ j, j < l.length * 3 → w.cell? ⟨g, j, none⟩ = (row l)[j]? := fun j hj => by
      rw [← ht, List.getElem?_take, if_pos hj]
      simp [World.cell?, hg]
    have hq := Tri.cells_get (l.map fun t => (t.on, t.off, t.pk)) k (t.on, t.off, t.pk) (by rw [List.getElem?_map, hk]; rfl)
    exact ⟨(hj _ (by omega)).trans hq.1, (hj _ (by omega)).trans hq.2.1, (hj _ (by omega)).trans hq.2.2⟩
theorem example_run : runL ⟨1, 4, 200, 100⟩ (ab (fn [1, 1, 1, 1, 9, 9, 1, 1])) 8 = [⟨4, 6, 9⟩] := by rfl
theorem example_dg : DG ⟨1, 4, 200, 100⟩ := ⟨by decide, by decide, by decide, by decide, by decide, by decide⟩
theorem example_in : ∀ j, j < 8 → -1073741823 ≤ fn [1, 1, 1, 1, 9, 9, 1, 1] j ∧ fn [1, 1, 1, 1, 9, 9, 1, 1] j ≤ 1073741823 := by decide
set_option maxHeartbeats 4000000 in
set_option maxRecDepth 100000 in
theorem sane_any {w : World} (hcl : Cl w) : Calls Tryd.prog 8 #[] w fun e w' => e = .returned (.bool true) ∧ Below w.heap.size w w' := by
  have VD := Lib.hid fun (w' : World) => valid_yes (S := 1) (L := 4) (on := 200) (off := 100) example_dg w'
  obtain ⟨w1, hw1⟩ : ∃ w1, w1 = w.alloc (.cells #[.int .i64 1, .int .i64 4, .int .i64 200, .int .i64 100] 28) := ⟨_, rfl⟩
  have YZ : Hid (Below w.heap.size w w1) := Lib.hid (by rw [hw1]; exact new_block _)
  have KA := Lib.hid (show w1.heap[w.heap.size]? = some (.cells #[.int .i64 1, .int .i64 4, .int .i64 200, .int .i64 100] 28 (0, 0)) by rw [hw1]; exact heap_alloc_new w _)
  have CZ := Lib.hid (show Cl w1 from hbk YZ.out hcl)
  go_enter Tryd.func8, Tryd.ntmps8
  go_upto_region 2 with fail
  rw [← hw1]
  clear hw1
  obtain ⟨d0, d1, d2, d3⟩ := c4 KA.out
  have I1 := ints_alloc w1 [1, 1, 1, 1, 9, 9, 1, 1] 3
  have SX : SV (w1.alloc (.cells #[.int .i64 1, .int .i64 1, .int .i64 1, .int .i64 1, .int .i64 9, .int .i64 9, .int .i64 1, .int .i64 1] 3)) (.slice (some ⟨w1.heap.size, 0, none⟩) 8 8) 8 (fn [1, 1, 1, 1, 9, 9, 1, 1]) :=
    ⟨_, _, rfl, by omega, by unfold maxLen; omega, fun _ => ⟨w1.heap.size, 0, rfl, by simp, fun j hj => by rw [Nat.zero_add]; exact I1 j hj⟩⟩
  clear I1
  have YB := Lib.hid (Buf.then_ YZ.out (new_block (.cells #[.int .i64 1, .int .i64 1, .int .i64 1, .int .i64 1, .int .i64 9, .int .i64 9, .int .i64 1, .int .i64 1] 3)))
  have KB := Lib.hid (hbk (new_block (.cells #[.int .i64 1, .int .i64 1, .int .i64 1, .int .i64 1, .int .i64 9, .int .i64 9, .int .i64 1, .int .i64 1] 3)) KA.out)
  have RN := run_any (S := 1) (L := 4) (ON := 200) (OFF := 100) example_dg SX (by omega) example_in (hbk YB.out hcl)
  rw [example_run] at RN
  replace RN := Lib.hid RN
  clear SX
  go_wp2_with fail
  refine RN.out.mono ?_
  rintro e w3 ⟨⟨v, rfl, ho⟩, hc⟩
  obtain ⟨g, cap, rfl, hl1, hl9, hg, hr⟩ := tri_read ho (by decide)
  obtain ⟨q0, q1, q2⟩ := hr 0 ⟨4, 6, 9⟩ rfl
  simp only [Nat.zero_mul, Nat.zero_add] at q0 q1 q2
  have hl : ([⟨4, 6, 9⟩] : List Tr).length = 1 := rfl
  rw [hl] at hl1 ⊢
  have K3 := Lib.hid (hbk hc KB.out)
  have Y3 := Lib.hid (Buf.then_ YB.out hc)
  clear d0 d1 d2 d3 ho hr hl RN KB YB KA YZ CZ hc
  obtain ⟨d0, d1, d2, d3⟩ := c4 K3.out
  go_wp2_with (go_at_call 22; refine (VD.out _).mono ?_; rintro e w4 ⟨rfl, hc⟩)
  go_ret
  exact ⟨rfl, Buf.then_ Y3.out hc⟩
end Det
end Go.Proofs.YtbmcmiggifknfaaDoor
