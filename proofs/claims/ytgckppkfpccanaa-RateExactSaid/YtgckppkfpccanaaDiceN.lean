/- Contracts of the dice that draw values out of a list: Light, Roll, Next. What Next returns is told by its range alone. -/
import Derived.Test.YtgckppkfpccanaaRows
import Derived.Test.YtgckppkfpccanaaMath
import Derived.Test.YtgckppkfpccanaaBuf
import Derived.ProofKit
import Derived.Outline
import Derived.Handy
import Derived.WalkSpells
import Derived.WalkLawsBesides
import Derived.Deep.QuietTactic
import Derived.BigQuiet
import Derived.Lib.Hide
import Derived.Laws.Tables
import Derived.Laws.Rows
import Derived.Maps.AppendAt
import Derived.Laws.ResultCell
namespace Go.Proofs.Ytgckppkfpccanaa
open Go.RowKit
namespace Dice
theorem light_any (a : Option Addr) (len cap : Nat) (w : World) :
    Calls Try.prog 6 #[.slice a len cap] w fun e w' => e = .returned (.bool (decide ((len : Int) ≤ 500))) ∧ w' = w := by
  go_enter Try.func6, Try.ntmps6
  go_wp2
  go_ret
  exact ⟨rfl, rfl⟩
/-- The dice in block g, over a list that lay in the world W. -/
structure Di (W w : World) (g : Nat) (a : Option Addr) (len cap : Nat) (zs : List Int) : Prop where
  base : W.heap.size ≤ g
  lt : g < w.heap.size
  bel : Below W.heap.size W w
  row : Buf.IsRow .i64 W a len cap zs
  small : len ≤ 500
  blk : ∃ p : Nat, p ≤ len ∧ w.heap[g]? = some (.cells #[.slice a len cap, .int .i64 p] 49 (0, 0))
theorem roll_any (a : Option Addr) (len cap : Nat) (zs : List Int) (w : World) (hr : Buf.IsRow .i64 w a len cap zs) (hs : len ≤ 500) :
    Calls Try.prog 8 #[.slice a len cap] w fun e w' => e = .returned (.pointer (some ⟨w.heap.size, 0, none⟩)) ∧ Di w w' w.heap.size a len cap zs := by
  go_enter Try.func8, Try.ntmps8
  go_wp2
  go_ret
  exact ⟨rfl, Nat.le_refl _, by simp, (Below.refl _ _).alloc (Nat.le_refl _) _, hr, hs, 0, Nat.zero_le _, heap_alloc_new _ _⟩
theorem Di.cells {w : World} {g : Nat} {a : Option Addr} {len cap : Nat} {p : Nat} (h : w.heap[g]? = some (.cells #[.slice a len cap, .int .i64 p] 49 (0, 0))) :
    w.cell? ⟨g, 0, none⟩ = some (.slice a len cap) ∧ w.cell? ⟨g, 1, none⟩ = some (.int .i64 p) ∧ w.frozen? ⟨g, 1, none⟩ = false :=
  ⟨cell_of_row w g 0 _ _ _ h, cell_of_row w g 1 _ _ _ h, frozen_of_row w g 1 _ _ h⟩
/-- The world behind a call that only moved the dice and laid new blocks. -/
def Moved (w w' : World) (g : Nat) : Prop := w.grownBy w' (some g)
theorem next_zero {W w : World} {g : Nat} {a : Option Addr} {len cap : Nat} {zs : List Int} (n : Int) (h : Di W w g a len cap zs) (hn : n < 1) :
    Calls Try.prog 13 #[.pointer (some ⟨g, 0, none⟩), .int .i64 n] w fun e w' => e = .returned (.int .i64 0) ∧ ∃ m, w' = w.drewN m := by
  obtain ⟨p, hp, hb⟩ := h.blk
  obtain ⟨c0, c1, _⟩ := Di.cells hb
  have hs := h.small
  clear h hb
  by_cases hq : p < len
  · have d1 : decide ((len : Int) ≤ (p : Int)) = false := by simp; omega
    have d2 : decide (n < 1) = true := by simp; omega
    go_enter Try.func13, Try.ntmps13
    go_wp2_with fail
    go_quiet (fail)
    go_wp2
    go_ret
    exact ⟨rfl, _, rfl⟩
  · have d1 : decide ((len : Int) ≤ (p : Int)) = true := by simp; omega
    go_enter Try.func13, Try.ntmps13
    go_wp2_with fail
    go_quiet (fail)
    go_wp2
    go_ret
    exact ⟨rfl, _, rfl⟩
/-- What Next returns: a number from 0 to n - 1. -/
def Rolled (n : Int) (e : Ending) : Prop := ∃ v : Int, e = .returned (.int .i64 v) ∧ 0 ≤ v ∧ v < n
theorem Rolled.mk {n v : Int} (h0 : 0 ≤ v) (h1 : v < n) : Rolled n (.returned (.int .i64 v)) := ⟨v, rfl, h0, h1⟩
/-- What is left when the dice have moved on. -/
structure Left (W w w' : World) (g : Nat) (a : Option Addr) (len cap : Nat) (zs : List Int) : Prop where
  di : Di W w' g a len cap zs
  far : w.grownBy w' (some g)
theorem Di.drewN {W w : World} {g : Nat} {a : Option Addr} {len cap : Nat} {zs : List Int} (h : Di W w g a len cap zs) (m : Nat) : Left W w (w.drewN m) g a len cap zs :=
  ⟨⟨h.base, h.lt, Buf.below_drewN h.bel m, h.row, h.small, h.blk⟩, ⟨rfl, rfl, rfl, Nat.le_refl _, fun _ _ _ => rfl⟩⟩
theorem Di.move {W w : World} {g : Nat} {a : Option Addr} {len cap : Nat} {zs : List Int} (h : Di W w g a len cap zs) (m p : Nat) (hp : p ≤ len) (q : Nat) (hb : w.heap[g]? = some (.cells #[.slice a len cap, .int .i64 q] 49 (0, 0))) :
    Left W w ((w.drewN m).setCell ⟨g, 1, none⟩ (.int .i64 p)) g a len cap zs := by
  refine ⟨⟨h.base, by simp [World.setCell]; exact h.lt, (Buf.below_drewN h.bel m).setCell h.base _, h.row, h.small, p, hp, ?_⟩, ⟨rfl, rfl, rfl, by simp [World.setCell], fun k hk hne => ?_⟩⟩
  · exact (heap_setCell_same (w.drewN m) g 1 _ _ (.int .i64 p) hb).trans rfl
  · exact Below.heap_setCell (w.drewN m) _ _ k (fun e => hne (by rw [e]))
theorem next_any {W w : World} {g : Nat} {a : Option Addr} {len cap : Nat} {zs : List Int} (n : Int) (h : Di W w g a len cap zs) (h1 : 1 ≤ n) (h2 : n ≤ 4611686018427387904) :
    Calls Try.prog 13 #[.pointer (some ⟨g, 0, none⟩), .int .i64 n] w fun e w' => Rolled n e ∧ Left W w w' g a len cap zs := by
  obtain ⟨p, hp, hb⟩ := h.blk
  obtain ⟨c0, c1, f1⟩ := Di.cells hb
  have hs := h.small
  by_cases hq : p < len
  · obtain ⟨x, rfl, hlc, hcm, hzl, hcell, hwf⟩ : ∃ x, a = some x ∧ len ≤ cap ∧ cap ≤ maxLen ∧ zs.length = cap ∧ (∀ i, i < zs.length → W.cell? (x.add i) = some (.int .i64 (zs.getD i 0))) ∧ ∀ n ∈ zs, (Lit.int .i64 n).wf = true := by
      rcases h.row with ⟨_, e, _⟩ | h
      · omega
      · exact h
    obtain ⟨b, off, rfl, hc⟩ := ints_at hcell (by omega)
    have hlt := World.block_lt_of_cell? W _ (hc p (by omega))
    have hz : w.cell? ⟨b, off + p, none⟩ = some (.int .i64 (zs.getD p 0)) := by
      rw [h.bel.cell (p := ⟨b, off + p, none⟩) hlt]; exact hc p (by omega)
    have hw := Ma.wf_i64 (hwf (zs.getD p 0) (by
      have : zs.getD p 0 = zs[p]'(by omega) := by simp [List.getD, show p < zs.length by omega]
      rw [this]; exact List.getElem_mem _))
    generalize zs.getD p 0 = z at hz hw
    obtain ⟨r, hr⟩ : ∃ r, z.tmod n = r := ⟨_, rfl⟩
    have r1 : -n < r := by rw [← hr]; have := Int.lt_tmod_of_pos z (show 0 < n by omega); omega
    have r2 : r < n := by rw [← hr]; exact Int.tmod_lt_of_pos z (by omega)
    obtain ⟨z1, z2⟩ := hw
    have d1 : decide ((len : Int) ≤ (p : Int)) = false := by simp; omega
    have d2 : decide (n < 1) = false := by simp; omega
    have H := Lib.hid h
    have HB := Lib.hid hb
    have HR : Hid (zs.length = cap) := hzl
    clear h hb hcell hc hwf hzl
    go_enter Try.func13, Try.ntmps13
    go_wp2_with fail
    go_quiet (fail)
    go_wp2
    go_quiet (fail)
    go_wp2
    · go_ret
      exact ⟨.mk (by omega) (by omega), H.out.move _ (p + 1) (by omega) p HB.out⟩
    · go_ret
      exact ⟨.mk (by omega) (by omega), H.out.move _ (p + 1) (by omega) p HB.out⟩
  · have d1 : decide ((len : Int) ≤ (p : Int)) = true := by simp; omega
    have H := Lib.hid h
    clear h hb
    go_enter Try.func13, Try.ntmps13
    go_wp2_with fail
    go_quiet (fail)
    go_wp2
    go_ret
    exact ⟨.mk (Int.le_refl _) (by omega), H.out.drewN _⟩
/-- A row of ints in memory. -/
def Ints (w : World) (b : Nat) (xs : List Int) : Prop := ∀ j, j < xs.length → w.cell? ⟨b, j, none⟩ = some (.int .i64 (xs.getD j 0))
theorem Di.below {W w w' : World} {g : Nat} {a : Option Addr} {len cap : Nat} {zs : List Int} (h : Di W w g a len cap zs) (hb : Below w.heap.size w w') : Di W w' g a len cap zs := by
  obtain ⟨p, hp, hk⟩ := h.blk
  exact ⟨h.base, Nat.lt_of_lt_of_le h.lt hb.size, h.bel.trans (hb.mono h.bel.size), h.row, h.small, p, hp, by rw [hb.block g h.lt]; exact hk⟩
theorem grown_of_below {w w' : World} {r : Option Nat} (hb : Below w.heap.size w w') : w.grownBy w' r := ⟨hb.os, hb.tape, hb.output, hb.size, fun k hk _ => hb.block k hk⟩
theorem Left.refl {W w : World} {g : Nat} {a : Option Addr} {len cap : Nat} {zs : List Int} (h : Di W w g a len cap zs) : Left W w w g a len cap zs := ⟨h, grown_of_below (Below.refl _ _)⟩
theorem Left.trans {W w w1 w2 : World} {g : Nat} {a : Option Addr} {len cap : Nat} {zs : List Int} (h : Left W w w1 g a len cap zs) (k : Left W w1 w2 g a len cap zs) : Left W w w2 g a len cap zs := ⟨k.di, h.far.trans k.far⟩
theorem Left.below {W w w1 w2 : World} {g : Nat} {a : Option Addr} {len cap : Nat} {zs : List Int} (h : Left W w w1 g a len cap zs) (hb : Below w1.heap.size w1 w2) : Left W w w2 g a len cap zs := ⟨h.di.below hb, h.far.trans (grown_of_below hb)⟩
/-- Only blocks that are new since w have changed from w1 to w2. -/
theorem Left.past {W w w1 w2 : World} {g : Nat} {a : Option Addr} {len cap : Nat} {zs : List Int} (h : Di W w g a len cap zs) (l : Left W w w1 g a len cap zs) (hb : Below w.heap.size w1 w2) : Left W w w2 g a len cap zs := by
  obtain ⟨p, hp, hk⟩ := l.di.blk
  exact ⟨⟨h.base, Nat.lt_of_lt_of_le l.di.lt hb.size, l.di.bel.trans (hb.mono h.bel.size), h.row, h.small, p, hp, by rw [hb.block g h.lt]; exact hk⟩,
    ⟨by first | exact hb.os.trans l.far.os | exact l.far.os.trans hb.os, by first | exact hb.tape.trans l.far.tape | exact l.far.tape.trans hb.tape, by first | exact hb.output.trans l.far.output | exact l.far.output.trans hb.output, Nat.le_trans l.far.size hb.size, fun k hk hne => by rw [hb.block k hk]; exact l.far.block k hk hne⟩⟩
theorem ints_alloc (w : World) (xs : List Int) (t : TypeId) : Ints (w.alloc (.cells (xs.map (fun z => Value.int .i64 z)).toArray t)) w.heap.size xs := by
  intro j hj
  refine (World.cell?_alloc_mark w _ t (0, 0) j).trans ?_
  simp [List.getD, hj]
theorem new_block {w : World} (o : Obj) : Below w.heap.size w (w.alloc o) := (Below.refl _ _).alloc (Nat.le_refl _) _
end Dice
end Go.Proofs.Ytgckppkfpccanaa
