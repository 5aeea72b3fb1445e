/- Numbers that can be read: Valid, Same, isDecimal. -/
import Derived.Test.YtaaeegjinblpiaaDoorNtxL
import Derived.Test.YtaaeegjinblpiaaDoorDice
import Derived.Deep.DeepCutAuto
set_option linter.unusedVariables false
set_option linter.unusedSimpArgs false
namespace Go.Proofs.YtaaeegjinblpiaaDoor
open Go.RowKit Dice
namespace Nt
/-- A number that can be read; a number 0 may lie nowhere. -/
structure Nr (w : World) (a : Option Addr) (n c : Nat) (L : List Int) : Prop where
  len : n = L.length
  nc : n ≤ c
  small : n ≤ 65
  at_ : 0 < n → ∃ g, a = some ⟨g, 0, none⟩ ∧ g < w.heap.size ∧ ∀ (j : Nat) (x : Int), L[j]? = some x → w.cell? ⟨g, j, none⟩ = some (.int .i64 x)
theorem Nr.kept {w w' : World} {a : Option Addr} {n c : Nat} {L : List Int} (h : Nr w a n c L) (hb' : ∀ g, g < w.heap.size → a = some ⟨g, 0, none⟩ → w'.heap[g]? = w.heap[g]?) (hs : w.heap.size ≤ w'.heap.size) : Nr w' a n c L :=
  ⟨h.len, h.nc, h.small, fun h0 => by
    obtain ⟨g, e, hg, hc⟩ := h.at_ h0
    exact ⟨g, e, Nat.lt_of_lt_of_le hg hs, fun j x hx => (World.cell?_of_block (a := ⟨g, j, none⟩) (hb' g hg e)).trans (hc j x hx)⟩⟩
theorem Nr.below {w w' : World} {a : Option Addr} {n c : Nat} {L : List Int} (h : Nr w a n c L) (hb' : Below w.heap.size w w') : Nr w' a n c L := h.kept (fun g hg _ => hb'.block g hg) hb'.size
set_option maxHeartbeats 2000000 in
theorem valid_any {w : World} {a : Option Addr} {n c : Nat} {L : List Int} (h : Nr w a n c L) (hL : Limbs L) (h64 : n ≤ 64) :
    Calls Tryd.prog 24 #[.slice a n c] w fun e w' => e = .returned (.bool true) ∧ w' = w := by
  have HR := Lib.hid hL.rng
  have HL := Lib.hid hL.last
  have hnc := h.nc
  have hl := Lib.hid h.len
  have H := Lib.hid h
  clear h hL
  by_cases h0 : n = 0
  · subst h0
    go_enter Tryd.func24, Tryd.ntmps24
    go_wp2
    go_loop [10] (fun i => i = .int .i64 0) (fun i => 0)
    case atStart => rfl
    case round =>
      subst hrel
      go_wp2
      go_ret
      exact ⟨rfl, rfl⟩
  · obtain ⟨g, rfl, hg, hc⟩ := H.out.at_ (by omega)
    replace hc := Lib.hid hc
    obtain ⟨z, hz⟩ : ∃ z, L[n - 1]? = some z := ⟨L[n - 1]'(by rw [← hl.out]; omega), List.getElem?_eq_getElem _⟩
    have cl := hc.out _ _ hz
    have zne : (z != 0) = true := by
      rw [bne_iff_ne]
      exact HL.out z (by rw [List.getLast?_eq_getElem?, ← hl.out]; exact hz)
    have e1 : ((n : Int) - 1) = ((n - 1 : Nat) : Int) := by omega
    have e2 : ((n - 1 : Nat) : Int).toNat = n - 1 := by simp
    have hnz : ((n : Int) == 0) = false := by rw [beq_eq_false_iff_ne]; omega
    replace hz := Lib.hid hz
    go_enter Tryd.func24, Tryd.ntmps24
    go_wp2
    go_loop [10] (fun i => ∃ k : Nat, k ≤ n ∧ i = .int .i64 k) (fun i => (n - intOf i).toNat)
    case atStart => exact ⟨0, by omega, rfl⟩
    case round =>
      obtain ⟨k, hk, rfl⟩ := hrel
      by_cases hlt : k < n
      · obtain ⟨y, hy⟩ : ∃ y, L[k]? = some y := ⟨L[k]'(by rw [← hl.out]; omega), List.getElem?_eq_getElem _⟩
        have ck := hc.out _ _ hy
        obtain ⟨y0, y1⟩ := HR.out y (List.mem_of_getElem? hy)
        replace hy := Lib.hid hy
        clear cl e1 e2 zne
        go_wp2
        go_round
        case rel => exact ⟨k + 1, by omega, by go_num⟩
        case measure => simp [intOf]; omega
      · obtain rfl : k = n := by omega
        go_wp2
        go_ret
        exact ⟨rfl, rfl⟩
set_option maxHeartbeats 2000000 in
theorem same_any {w : World} {a a' : Option Addr} {n c c' : Nat} {L : List Int} (h : Nr w a n c L) (h' : Nr w a' n c' L) :
    Calls Tryd.prog 19 #[.slice a n c, .slice a' n c'] w fun e w' => e = .returned (.bool true) ∧ ∃ m, w' = w.drewN m := by
  have hnc := h.nc
  have hnc' := h'.nc
  have hl := Lib.hid h.len
  have hsm := h.small
  have H := Lib.hid h
  have G := Lib.hid h'
  have enn : ((n : Int) == (n : Int)) = true := by simp
  clear h h'
  go_enter Tryd.func19, Tryd.ntmps19
  go_wp2_with fail
  go_loopw [5] (fun i wr => ∃ k : Nat, k ≤ n ∧ i = .int .i64 k ∧ Hid (∃ m, wr = w.drewN m)) (fun i _ => n - (intOf i).toNat)
  case atStart => exact ⟨0, by omega, rfl, Lib.hid ⟨0, rfl⟩⟩
  case round =>
    obtain ⟨k, hk, rfl, hw⟩ := hrel
    obtain ⟨m, rfl⟩ := hw.out
    by_cases hlt : k < n
    · obtain ⟨g, rfl, hg, hc⟩ := H.out.at_ (by omega)
      obtain ⟨g', rfl, hg', hc'⟩ := G.out.at_ (by omega)
      obtain ⟨d, hd⟩ : ∃ y, L[k]? = some y := ⟨L[k]'(by rw [← hl.out]; omega), List.getElem?_eq_getElem _⟩
      have c1 := hc _ _ hd
      have c2 := hc' _ _ hd
      replace hd := Lib.hid hd
      replace hc := Lib.hid hc
      replace hc' := Lib.hid hc'
      have edd : (d == d) = true := by simp
      clear hw
      go_wp2_with fail
      go_quiet (fail)
      go_wp2_with fail
      exact ⟨⟨k + 1, by omega, by go_num, Lib.hid ⟨_, rfl⟩⟩, by simp [intOf]; omega⟩
    · obtain rfl : k = n := by omega
      clear hw
      go_wp2_with fail
      go_ret
      exact ⟨rfl, _, rfl⟩
end Nt
end Go.Proofs.YtaaeegjinblpiaaDoor
