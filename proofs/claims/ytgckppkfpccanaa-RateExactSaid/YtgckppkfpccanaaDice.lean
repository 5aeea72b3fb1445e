/- Pick of the dice: what it returns is told by its range alone. -/
import Derived.Test.YtgckppkfpccanaaDiceN
namespace Go.Proofs.Ytgckppkfpccanaa
open Go.RowKit
namespace Dice
def Picked (xs : List Int) (e : Ending) : Prop := ∃ v : Int, e = .returned (.int .i64 v) ∧ v ∈ xs
theorem pick_any {W w : World} {g : Nat} {a : Option Addr} {len cap : Nat} {zs : List Int} (b : Nat) (xs : List Int) (n c : Nat) (h : Di W w g a len cap zs) (hx : Ints w b xs) (hn : n = xs.length) (h0 : 0 < n) (h9 : n ≤ 1000000) (hg : b ≠ g) (hb : b < w.heap.size) :
    Calls Try.prog 10 #[.pointer (some ⟨g, 0, none⟩), .slice (some ⟨b, 0, none⟩) n c] w fun e w' => Picked xs e ∧ Left W w w' g a len cap zs := by
  have H := Lib.hid h
  have HN := Lib.hid hn
  clear h hn
  go_enter Try.func10, Try.ntmps10
  go_wp2_with fail
  refine (next_any (n : Int) H.out (by omega) (by omega)).mono ?_
  rintro e w1 ⟨⟨v, rfl, v0, v1⟩, hl⟩
  obtain ⟨k, rfl⟩ := Int.eq_ofNat_of_zero_le v0
  have hk : k < n := by omega
  have hc : w1.cell? ⟨b, k, none⟩ = some (.int .i64 (xs.getD k 0)) := by
    rw [World.cell?_of_block (a := ⟨b, k, none⟩) (hl.far.block b hb (by simpa using hg))]
    exact hx k (by rw [← HN.out]; exact hk)
  have hm : Hid (xs.getD k 0 ∈ xs) := by
    have hl : k < xs.length := by rw [← HN.out]; exact hk
    have : xs.getD k 0 = xs[k] := by simp [List.getD, hl]
    show _ ∈ _
    rw [this]; exact List.getElem_mem _
  generalize xs.getD k 0 = u at hc hm
  go_wp2
  go_ret
  exact ⟨⟨u, rfl, hm.out⟩, hl⟩
end Dice
end Go.Proofs.Ytgckppkfpccanaa
