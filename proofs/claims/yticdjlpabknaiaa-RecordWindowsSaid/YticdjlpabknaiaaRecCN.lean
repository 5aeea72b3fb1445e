/- Lists of samples: reading, cloning. -/
import Derived.Test.YticdjlpabknaiaaRecB
import Derived.Lib.SliceRun
set_option linter.unusedVariables false
set_option linter.unusedSimpArgs false
namespace Go.Proofs.Yticdjlpabknaiaa
open Go.RowKit
namespace Rec
open Dice
def ints (l : List Int) : List Value := l.map fun z => Value.int .i64 z
/-- A list of numbers that can be read. -/
def SR (w : World) (b : Nat) (xs : List Int) : Prop := b < w.heap.size ∧ ∀ j, j < xs.length → w.cell? ⟨b, j, none⟩ = some (.int .i64 (xs.getD j 0))
theorem SR.kept {w w' : World} {b : Nat} {xs : List Int} (h : SR w b xs) (e : w'.heap[b]? = w.heap[b]?) (hs : w.heap.size ≤ w'.heap.size) : SR w' b xs :=
  ⟨Nat.lt_of_lt_of_le h.1 hs, fun j hj => (World.cell?_of_block (a := ⟨b, j, none⟩) e).trans (h.2 j hj)⟩
theorem SR.below {w w' : World} {b : Nat} {xs : List Int} (h : SR w b xs) (hb' : Below w.heap.size w w') : SR w' b xs := h.kept (hb'.block b h.1) hb'.size
theorem sr_own {w : World} {B : Nat} {v : Value} {n : Nat} {xs : List Int} (h : w.ownsRow B 3 1 v n (ints xs)) (hn : n = xs.length) (h1 : 1 ≤ n) : ∃ b c, v = .slice (some ⟨b, 0, none⟩) n c ∧ SR w b xs ∧ n ≤ c ∧ c ≤ maxLen ∧ B ≤ b := by
  rcases id h.2 with ⟨_, h0⟩ | ⟨g, cap, cur, rfl, hb, hg, h2, h3, _⟩
  · omega
  · refine ⟨g, cap, rfl, ⟨(Array.getElem?_eq_some_iff.1 hg).1, fun j hj => ?_⟩, h2, h3, hb⟩
    have := h.cells (g := g) rfl j (.int .i64 (xs.getD j 0)) (by simp [ints, List.getD_eq_getElem?_getD, hj])
    rwa [Addr.add_lit, Nat.zero_add] at this
set_option maxHeartbeats 2000000 in
theorem clone_ints {w : World} {b n c : Nat} {xs : List Int} (h : SR w b xs) (hn : n = xs.length) (h1 : 1 ≤ n) (n9 : n ≤ 1000) :
    Calls Try.prog 50 #[.slice (some ⟨b, 0, none⟩) n c] w fun e w' => (∃ g c', e = .returned (.slice (some ⟨g, 0, none⟩) n c') ∧ SR w' g xs ∧ n ≤ c' ∧ w.heap.size ≤ g) ∧ Below w.heap.size w w' := by
  obtain ⟨i0, hi, hz0, hz1, hz2⟩ : ∃ i, Try.prog.info? 3 = some i ∧ i.zero = some (.int .i64 0) ∧ i.size = 1 ∧ i.bytes = 8 := ⟨_, rfl, by kernel_rfl, by kernel_rfl, by kernel_rfl⟩
  have hnw : Hid (∀ j u, (ints xs)[j]? = some u → (w.alloc (.cells #[] 3)).cell? ((⟨b, 0, none⟩ : Addr).add j) = some u) := Lib.hid (by
    intro j u hj
    have hlt : j < xs.length := by have := (List.getElem?_eq_some_iff.1 hj).1; simpa [ints] using this
    have h2 := (h.below (new_block (.cells #[] 3))).2 j hlt
    have e : u = .int .i64 (xs.getD j 0) := by
      simp only [ints, List.getElem?_map, List.getElem?_eq_getElem hlt, Option.map_some, Option.some.injEq] at hj
      rw [← hj]; simp [List.getD_eq_getElem?_getD, hlt]
    rw [e, Addr.add_lit, Nat.zero_add]
    exact h2)
  have hll : Hid ((ints xs).length = n * 1) := Lib.hid (by simp [ints]; omega)
  have hon : Hid (∀ u ∈ ints xs, u.oneCell' = true) := Lib.hid (by intro u hu; simp [ints] at hu; obtain ⟨z, _, rfl⟩ := hu; rfl)
  have hlit : Hid ((w.alloc (.cells #[] 3)).ownsRow w.heap.size 3 1 (.slice (some ⟨w.heap.size, 0, none⟩) 0 0) 0 []) := Lib.hid (World.ownsRow_lit w #[] 0 (Nat.le_refl _) (by decide) rfl)
  have m1 : Hid (0 + n ≤ maxLen) := Lib.hid (by unfold maxLen; omega)
  have hsa : Hid ((w.alloc (.cells #[] 3)).heap.size = w.heap.size + 1) := Lib.hid (by simp)
  have qT : ∀ (w : World), (binOp .eql 22 (.slice (some ⟨b, 0, none⟩) n c) (.slice none 0 0)).run Try.prog w = .ok (.bool false) w := fun w => Lib.run_eql_slice_nil w _ _ _ _ _ _ _ Try.underlying22
  replace hn := Lib.hid hn
  clear h
  go_enter Try.func50, Try.ntmps50
  go_wp2_with (at_builtin; refine wpList_append_lies _ rfl _ _ 22 rfl w.heap.size 3 i0 (.int .i64 0) 1 8 Try.underlying22 hi hz0 hz1 hz2 rfl (by decide) (.slice (some ⟨w.heap.size, 0, none⟩) 0 0) 0 [] rfl hlit.out ⟨b, 0, none⟩ n c (ints xs) rfl hll.out hnw.out hon.out (by omega) m1.out (by omega) (by simp) _ rfl ?_; intro g10 c10 w10 hown hgrow hat hlt10)
  go_ret
  have B1 : Below w.heap.size w w10 := ((Below.refl _ w).alloc (Nat.le_refl _) _).grown hgrow (by rw [hsa.out]; omega) (fun k hk => by simp [Value.ownBlock] at hk; omega)
  rw [Nat.zero_add] at *
  obtain ⟨b2, c2, e2, hsr, h2, _, h3⟩ := sr_own (xs := xs) (by simpa using hown) hn.out h1
  obtain ⟨rfl, rfl⟩ : g10 = b2 ∧ c10 = c2 := by injection e2 with p q r; injection p with p; injection p with p; exact ⟨p, r⟩
  exact ⟨⟨g10, c10, rfl, hsr, h2, h3⟩, B1⟩
end Rec
end Go.Proofs.Yticdjlpabknaiaa
