/- Same; the examples of the chapter. -/
import Derived.Test.YtfebacopbacopaaDoorStmN
import Derived.Test.YtfebacopbacopaaDoorSmp
set_option linter.unusedVariables false
set_option linter.unusedSimpArgs false
namespace Go.Proofs.YtfebacopbacopaaDoor
open Go.RowKit Dice Ri Rk
namespace St
set_option maxHeartbeats 2000000 in
theorem same_any {w : World} {a a' : Option Addr} {n c c' : Nat} {L : List Int} (h : Ro w a n c L) (h' : Ro w a' n c' L) :
    Calls Tryd.prog 33 #[.slice a n c, .slice a' n c'] w fun e w' => e = .returned (.bool true) ∧ Below w.heap.size w w' := by
  have hnc := h.nc
  have hnc' := h'.nc
  have hcc := h.cap
  have hl := Lib.hid h.len
  have H := Lib.hid h
  have G := Lib.hid h'
  have enn : ((n : Int) == (n : Int)) = true := by simp
  clear h h'
  go_enter Tryd.func33, Tryd.ntmps33
  go_wp2_with fail
  go_loopw [5] (fun i wr => ∃ k : Nat, k ≤ n ∧ i = .int .i64 k ∧ Hid (∃ m, wr = w.drewN m)) (fun i _ => n - (intOf i).toNat)
  case atStart => exact ⟨0, by omega, rfl, Lib.hid ⟨0, rfl⟩⟩
  case round =>
    obtain ⟨k, hk, rfl, hw⟩ := hrel
    obtain ⟨m, rfl⟩ := hw.out
    by_cases hlt : k < n
    · obtain ⟨g, o, rfl⟩ := H.out.form (by omega)
      obtain ⟨g', o', rfl⟩ := G.out.form (by omega)
      have c1 := H.out.cell k hlt
      have c2 := G.out.cell k hlt
      generalize L.getD k 0 = d at *
      have ki : (k : Int) < n := by omega
      have edd : (d == d) = true := by simp
      clear hw
      go_wp2_with fail
      go_quiet (fail)
      go_wp2_with fail
      exact ⟨⟨k + 1, by omega, by go_num, Lib.hid ⟨_, rfl⟩⟩, by simp [intOf]; omega⟩
    · obtain rfl : n = k := by omega
      clear hw
      go_wp2_with fail
      go_ret
      exact ⟨rfl, Buf.below_drewN (Below.refl _ _) _⟩
/-- A literal of ints. -/
theorem ro_new (w : World) (L : List Int) (o : Obj) (t : TypeId) (n : Nat) (hn : n = L.length) (ho : o = .cells (iv L).toArray t) (h : n ≤ 1000) : Ro (w.alloc o) (some ⟨w.heap.size, 0, none⟩) n n L := by
  subst hn ho
  refine ⟨rfl, Nat.le_refl _, by omega, fun h0 => ⟨_, 0, rfl, (by have : (w.alloc (.cells (iv L).toArray t)).heap.size = w.heap.size + 1 := (Array.size_push ..); omega), fun j x hx => ?_⟩⟩
  have hb := heap_alloc_new w (.cells (iv L).toArray t)
  rw [Nat.zero_add]
  refine (cell_of_row _ _ j _ _ _ hb).trans ?_
  simp [iv, hx]
end St
end Go.Proofs.YtfebacopbacopaaDoor
