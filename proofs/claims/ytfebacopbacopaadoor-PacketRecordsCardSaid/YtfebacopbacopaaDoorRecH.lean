/- Package record: part, Sub. -/
import Derived.Laws.OwnMore
import Derived.Deep.AppendLies
import Derived.Test.YtfebacopbacopaaDoorRecCN
import Derived.Test.YtfebacopbacopaaDoorMidN
import Derived.Test.YtfebacopbacopaaDoorRes
set_option linter.unusedVariables false
set_option linter.unusedSimpArgs false
namespace Go.Proofs.YtfebacopbacopaaDoor
open Go.RowKit
namespace Rec
open Dice
theorem keep_ne {w : World} {b g : Nat} {o : Obj} (h : w.heap[b]? = some o) (hne : b ≠ g) (i : Nat) (v : Value) : (w.setCell ⟨g, i, none⟩ v).heap[b]? = some o := (Below.heap_setCell w ⟨g, i, none⟩ v b hne).trans h
set_option maxHeartbeats 2000000 in
set_option maxRecDepth 100000 in
theorem clone_off {w : World} {b o n c : Nat} {ys : List Int} (hbs : b < w.heap.size) (h : ∀ j, j < ys.length → w.cell? ⟨b, o + j, none⟩ = some (.int .i64 (ys.getD j 0))) (hn : n = ys.length) (h1 : 1 ≤ n) (n9 : n ≤ 1000) :
    Calls Tryd.prog 35 #[.slice (some ⟨b, o, none⟩) n c] w fun e w' => (∃ g c', e = .returned (.slice (some ⟨g, 0, none⟩) n c') ∧ SR w' g ys ∧ n ≤ c' ∧ c' ≤ maxLen ∧ w.heap.size ≤ g) ∧ Below w.heap.size w w' := by
  obtain ⟨i0, hi, hz0, hz1, hz2⟩ : ∃ i, Tryd.prog.info? 3 = some i ∧ i.zero = some (.int .i64 0) ∧ i.size = 1 ∧ i.bytes = 8 := ⟨_, rfl, by kernel_rfl, by kernel_rfl, by kernel_rfl⟩
  have hnw : Hid (∀ j u, (ints ys)[j]? = some u → (w.alloc (.cells #[] 3)).cell? ((⟨b, o, none⟩ : Addr).add j) = some u) := Lib.hid (by
    intro j u hj
    have hlt : j < ys.length := by have := (List.getElem?_eq_some_iff.1 hj).1; simpa [ints] using this
    have h2 := (World.cell?_of_block (a := ⟨b, o + j, none⟩) ((new_block (w := w) (.cells #[] 3)).block b hbs)).trans (h j hlt)
    have e : u = .int .i64 (ys.getD j 0) := by
      simp only [ints, List.getElem?_map, List.getElem?_eq_getElem hlt, Option.map_some, Option.some.injEq] at hj
      rw [← hj]; simp [List.getD_eq_getElem?_getD, hlt]
    rw [e, Addr.add_lit]
    exact h2)
  have hll : Hid ((ints ys).length = n * 1) := Lib.hid (by simp [ints]; omega)
  have hon : Hid (∀ u ∈ ints ys, u.oneCell' = true) := Lib.hid (by intro u hu; simp [ints] at hu; obtain ⟨z, _, rfl⟩ := hu; rfl)
  have hlit : Hid ((w.alloc (.cells #[] 3)).ownsRow w.heap.size 3 1 (.slice (some ⟨w.heap.size, 0, none⟩) 0 0) 0 []) := Lib.hid (World.ownsRow_lit w #[] 0 (Nat.le_refl _) (by decide) rfl)
  have m1 : Hid (0 + n ≤ maxLen) := Lib.hid (by unfold maxLen; omega)
  have hsa : Hid ((w.alloc (.cells #[] 3)).heap.size = w.heap.size + 1) := Lib.hid (by simp)
  have qT : ∀ (w : World), (binOp .eql 22 (.slice (some ⟨b, o, none⟩) n c) (.slice none 0 0)).run Tryd.prog w = .ok (.bool false) w := fun w => Lib.run_eql_slice_nil w _ _ _ _ _ _ _ Tryd.underlying22
  replace hn := Lib.hid hn
  clear h
  go_enter Tryd.func35, Tryd.ntmps35
  go_wp2_with (at_builtin; refine wpList_append_lies _ rfl _ _ 22 rfl w.heap.size 3 i0 (.int .i64 0) 1 8 Tryd.underlying22 hi hz0 hz1 hz2 rfl (by decide) (.slice (some ⟨w.heap.size, 0, none⟩) 0 0) 0 [] rfl hlit.out ⟨b, o, none⟩ n c (ints ys) rfl hll.out hnw.out hon.out (by omega) m1.out (by omega) (by simp) _ rfl ?_; intro g10 c10 w10 hown hgrow hat hlt10)
  go_ret
  have B1 : Below w.heap.size w w10 := ((Below.refl _ w).alloc (Nat.le_refl _) _).grown hgrow (by rw [hsa.out]; omega) (fun k hk => by simp [Value.ownBlock] at hk; omega)
  rw [Nat.zero_add] at *
  obtain ⟨b2, c2, e2, hsr, h2, h9, h3⟩ := sr_own (xs := ys) (by simpa using hown) hn.out h1
  obtain ⟨rfl, rfl⟩ : g10 = b2 ∧ c10 = c2 := by injection e2 with p q r; injection p with p; injection p with p; exact ⟨p, r⟩
  exact ⟨⟨g10, c10, rfl, hsr, h2, h9, h3⟩, B1⟩
section
variable {s0 s1 s2 s3 : List UInt8} {st fi num den er ru se : Int}
end
end Rec
end Go.Proofs.YtfebacopbacopaaDoor
