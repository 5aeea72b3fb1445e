/- Rows of ints at any offset; layout, inRange, differences, allFit, nextCode, pack. -/
import Derived.Test.YtfebacopbacopaaDoorStmB
import Derived.Test.YtfebacopbacopaaDoorDice
import Derived.Test.YtfebacopbacopaaDoorBits
import Derived.Deep.DeepCutAuto
set_option linter.unusedVariables false
set_option linter.unusedSimpArgs false
namespace Go.Proofs.YtfebacopbacopaaDoor
open Go.RowKit Dice
namespace St
/-- A row of ints that can be read. -/
structure Ro (w : World) (a : Option Addr) (n c : Nat) (L : List Int) : Prop where
  len : n = L.length
  nc : n ≤ c
  cap : c ≤ 9223372036854775807
  at_ : 0 < n → ∃ g o, a = some ⟨g, o, none⟩ ∧ g < w.heap.size ∧ ∀ (j : Nat) (x : Int), L[j]? = some x → w.cell? ⟨g, o + j, none⟩ = some (.int .i64 x)
theorem Ro.below {w w' : World} {a : Option Addr} {n c : Nat} {L : List Int} (h : Ro w a n c L) (hb : Below w.heap.size w w') : Ro w' a n c L :=
  ⟨h.len, h.nc, h.cap, fun h0 => by
    obtain ⟨g, o, e, hg, hc⟩ := h.at_ h0
    exact ⟨g, o, e, Nat.lt_of_lt_of_le hg hb.size, fun j x hx => (World.cell?_of_block (a := ⟨g, o + j, none⟩) (hb.block g hg)).trans (hc j x hx)⟩⟩
theorem Ro.take {w : World} {a : Option Addr} {n c : Nat} {L : List Int} (h : Ro w a n c L) (k : Nat) (hk : k ≤ n) : Ro w a k c (L.take k) :=
  ⟨by rw [List.length_take, ← h.len]; omega, by have := h.nc; omega, h.cap, fun h0 => by
    obtain ⟨g, o, e, hg, hc⟩ := h.at_ (by omega)
    refine ⟨g, o, e, hg, fun j x hx => hc j x ?_⟩
    rw [List.getElem?_take] at hx
    split at hx
    · exact hx
    · cases hx⟩
theorem Ro.cell {w : World} {g o : Nat} {n c : Nat} {L : List Int} (h : Ro w (some ⟨g, o, none⟩) n c L) (k : Nat) (hk : k < n) : w.cell? ⟨g, o + k, none⟩ = some (.int .i64 (L.getD k 0)) := by
  obtain ⟨g', o', e, hg, hc⟩ := h.at_ (by omega)
  injection e with e
  injection e with e1 e2
  subst e1 e2
  have hl := h.len
  refine hc k _ ?_
  rw [List.getD_eq_getElem?_getD, List.getElem?_eq_getElem (by omega)]; rfl
theorem Ro.form {w : World} {a : Option Addr} {n c : Nat} {L : List Int} (h : Ro w a n c L) (h0 : 0 < n) : ∃ g o, a = some ⟨g, o, none⟩ := by
  obtain ⟨g, o, e, _⟩ := h.at_ h0
  exact ⟨g, o, e⟩
theorem bel_drew {w w' : World} (h : ∃ m, w' = w.drewN m) : Below w.heap.size w w' := by
  obtain ⟨m, rfl⟩ := h
  exact Buf.below_drewN (Below.refl _ _) m
theorem layout_any (k : Nat) (hk : k ≤ 3) (w : World) :
    Calls Tryd.prog 62 #[.int .i64 k] w fun e w' => e = .returned (.tuple #[.int .i64 (cnt k : Nat), .int .i64 (wid k : Nat)]) ∧ w' = w := by
  rcases (show k = 0 ∨ k = 1 ∨ k = 2 ∨ k = 3 by omega) with rfl | rfl | rfl | rfl
  all_goals
    go_enter Tryd.func62, Tryd.ntmps62
    go_wp2
    go_ret2
    exact ⟨rfl, rfl⟩
set_option maxHeartbeats 2000000 in
theorem inRange_any {w : World} {a : Option Addr} {n c : Nat} {L : List Int} (h : Ro w a n c L) (hL : InS L) :
    Calls Tryd.prog 43 #[.slice a n c] w fun e w' => e = .returned (.bool true) ∧ w' = w := by
  have hnc := h.nc
  have hcc := h.cap
  have hl := Lib.hid h.len
  have H := Lib.hid h
  have HL := Lib.hid hL
  clear h hL
  go_enter Tryd.func43, Tryd.ntmps43
  go_wp2
  go_loop [7] (fun i => ∃ k : Nat, k ≤ n ∧ i = .int .i64 k) (fun i => (n - intOf i).toNat)
  case atStart => exact ⟨0, by omega, rfl⟩
  case round =>
    obtain ⟨k, hk, rfl⟩ := hrel
    by_cases hlt : k < n
    · obtain ⟨g, o, rfl⟩ := H.out.form (by omega)
      have ck := H.out.cell k hlt
      obtain ⟨y, hy⟩ : ∃ y, y = L.getD k 0 := ⟨_, rfl⟩
      rw [← hy] at ck
      obtain ⟨y0, y1⟩ := HL.out y (by rw [hy, List.getD_eq_getElem?_getD, List.getElem?_eq_getElem (by rw [← hl.out]; exact hlt)]; exact List.getElem_mem _)
      replace hy := Lib.hid hy
      go_wp2
      go_round
      case rel => exact ⟨k + 1, by omega, by go_num⟩
      case measure => simp [intOf]; omega
    · obtain rfl : n = k := by omega
      go_wp2
      go_ret
      exact ⟨rfl, rfl⟩
end St
end Go.Proofs.YtfebacopbacopaaDoor
