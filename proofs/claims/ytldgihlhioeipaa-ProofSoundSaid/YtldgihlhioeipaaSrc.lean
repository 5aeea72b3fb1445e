/- Contracts of the reader of numbers out of a list: New, Raw, N. What N returns is told by its range alone. -/
import Derived.Test.YtldgihlhioeipaaKeep
import Derived.Maps.AppendAt
import Derived.Laws.ResultCell
namespace Go.Proofs.Ytldgihlhioeipaa
open Go.RowKit
namespace Src
/-- The reader in block g, over a list that lay in the world W. -/
structure Di (W w : World) (g : Nat) (a : Option Addr) (len cap : Nat) (zs : List Int) : Prop where
  base : W.heap.size ≤ g
  lt : g < w.heap.size
  bel : Below W.heap.size W w
  row : Buf.IsRow .i64 W a len cap zs
  small : len ≤ 2000
  blk : ∃ p : Nat, p ≤ len ∧ w.heap[g]? = some (.cells #[.slice a len cap, .int .i64 p] 57 (0, 0))
theorem row_short {k : IntKind} {w : World} {a : Option Addr} {len len' cap : Nat} {zs : List Int} (h : Buf.IsRow k w a len cap zs) (hl : len' ≤ len) : Buf.IsRow k w a len' cap zs := by
  rcases h with ⟨rfl, rfl, h2, h3⟩ | ⟨x, e, h1, h2⟩
  · exact .inl ⟨rfl, by omega, h2, h3⟩
  · exact .inr ⟨x, e, by omega, h2⟩
theorem new_any (a : Option Addr) (len cap : Nat) (zs : List Int) (w : World) (hr : Buf.IsRow .i64 w a len cap zs) :
    Calls Try.prog 5 #[.slice a len cap] w fun e w' => e = .returned (.pointer (some ⟨w.heap.size, 0, none⟩)) ∧ ∃ n, Di w w' w.heap.size a n cap zs := by
  rcases id hr with ⟨rfl, rfl, rfl, rfl⟩ | ⟨x, rfl, hlc, hcm, _⟩
  · go_enter Try.func5, Try.ntmps5
    go_wp2
    go_ret
    exact ⟨rfl, 0, Nat.le_refl _, by simp, (Below.refl _ _).alloc (Nat.le_refl _) _, hr, by omega, 0, Nat.le_refl _, heap_alloc_new _ _⟩
  · unfold maxLen at hcm
    by_cases h : len ≤ 2000
    · have hd : (len : Int) ≤ 2000 := by omega
      go_enter Try.func5, Try.ntmps5
      go_wp2
      go_ret
      exact ⟨rfl, len, Nat.le_refl _, by simp, (Below.refl _ _).alloc (Nat.le_refl _) _, hr, h, 0, Nat.zero_le _, heap_alloc_new _ _⟩
    · have hd : 2000 < (len : Int) := by omega
      go_enter Try.func5, Try.ntmps5
      go_wp2
      go_ret
      exact ⟨rfl, 2000, Nat.le_refl _, by simp, (Below.refl _ _).alloc (Nat.le_refl _) _, row_short hr (by omega), Nat.le_refl _, 0, Nat.zero_le _, heap_alloc_new _ _⟩
theorem Di.cells {w : World} {g : Nat} {a : Option Addr} {len cap : Nat} {p : Nat} (h : w.heap[g]? = some (.cells #[.slice a len cap, .int .i64 p] 57 (0, 0))) :
    w.cell? ⟨g, 0, none⟩ = some (.slice a len cap) ∧ w.cell? ⟨g, 1, none⟩ = some (.int .i64 p) ∧ w.frozen? ⟨g, 1, none⟩ = false :=
  ⟨cell_of_row w g 0 _ _ _ h, cell_of_row w g 1 _ _ _ h, frozen_of_row w g 1 _ _ h⟩
/-- What Next returns: a number from 0 to n - 1. -/
def Rolled (n : Int) (e : Ending) : Prop := ∃ v : Int, e = .returned (.int .i64 v) ∧ 0 ≤ v ∧ v < n
theorem Rolled.mk {n v : Int} (h0 : 0 ≤ v) (h1 : v < n) : Rolled n (.returned (.int .i64 v)) := ⟨v, rfl, h0, h1⟩
/-- What is left when the dice have moved on. -/
structure Left (W w w' : World) (g : Nat) (a : Option Addr) (len cap : Nat) (zs : List Int) : Prop where
  di : Di W w' g a len cap zs
  far : w.grownBy w' (some g)
theorem Di.drewN {W w : World} {g : Nat} {a : Option Addr} {len cap : Nat} {zs : List Int} (h : Di W w g a len cap zs) (m : Nat) : Left W w (w.drewN m) g a len cap zs :=
  ⟨⟨h.base, h.lt, Buf.below_drewN h.bel m, h.row, h.small, h.blk⟩, ⟨rfl, rfl, rfl, Nat.le_refl _, fun _ _ _ => rfl⟩⟩
theorem Di.move {W w : World} {g : Nat} {a : Option Addr} {len cap : Nat} {zs : List Int} (h : Di W w g a len cap zs) (m p : Nat) (hp : p ≤ len) (q : Nat) (hb : w.heap[g]? = some (.cells #[.slice a len cap, .int .i64 q] 57 (0, 0))) :
    Left W w ((w.drewN m).setCell ⟨g, 1, none⟩ (.int .i64 p)) g a len cap zs := by
  refine ⟨⟨h.base, by simp [World.setCell]; exact h.lt, (Buf.below_drewN h.bel m).setCell h.base _, h.row, h.small, p, hp, ?_⟩, ⟨rfl, rfl, rfl, by simp [World.setCell], fun k hk hne => ?_⟩⟩
  · exact (heap_setCell_same (w.drewN m) g 1 _ _ (.int .i64 p) hb).trans rfl
  · exact Below.heap_setCell (w.drewN m) _ _ k (fun e => hne (by rw [e]))
theorem Di.below {W w w' : World} {g : Nat} {a : Option Addr} {len cap : Nat} {zs : List Int} (h : Di W w g a len cap zs) (hb : Below w.heap.size w w') : Di W w' g a len cap zs := by
  obtain ⟨p, hp, hk⟩ := h.blk
  exact ⟨h.base, Nat.lt_of_lt_of_le h.lt hb.size, h.bel.trans (hb.mono h.bel.size), h.row, h.small, p, hp, by rw [hb.block g h.lt]; exact hk⟩
theorem grown_of_below {w w' : World} {r : Option Nat} (hb : Below w.heap.size w w') : w.grownBy w' r := ⟨hb.os, hb.tape, hb.output, hb.size, fun k hk _ => hb.block k hk⟩
theorem Left.refl {W w : World} {g : Nat} {a : Option Addr} {len cap : Nat} {zs : List Int} (h : Di W w g a len cap zs) : Left W w w g a len cap zs := ⟨h, grown_of_below (Below.refl _ _)⟩
theorem Left.trans {W w w1 w2 : World} {g : Nat} {a : Option Addr} {len cap : Nat} {zs : List Int} (h : Left W w w1 g a len cap zs) (k : Left W w1 w2 g a len cap zs) : Left W w w2 g a len cap zs := ⟨k.di, h.far.trans k.far⟩
theorem Left.below {W w w1 w2 : World} {g : Nat} {a : Option Addr} {len cap : Nat} {zs : List Int} (h : Left W w w1 g a len cap zs) (hb : Below w1.heap.size w1 w2) : Left W w w2 g a len cap zs := ⟨h.di.below hb, h.far.trans (grown_of_below hb)⟩
/-- Only blocks that are new since w have changed from w1 to w2. -/
theorem Left.past {W w w1 w2 : World} {g : Nat} {a : Option Addr} {len cap : Nat} {zs : List Int} (h : Di W w g a len cap zs) (l : Left W w w1 g a len cap zs) (hb : Below w.heap.size w1 w2) : Left W w w2 g a len cap zs := by
  obtain ⟨p, hp, hk⟩ := l.di.blk
  exact ⟨⟨h.base, Nat.lt_of_lt_of_le l.di.lt hb.size, l.di.bel.trans (hb.mono h.bel.size), h.row, h.small, p, hp, by rw [hb.block g h.lt]; exact hk⟩,
    ⟨by first | exact hb.os.trans l.far.os | exact l.far.os.trans hb.os, by first | exact hb.tape.trans l.far.tape | exact l.far.tape.trans hb.tape, by first | exact hb.output.trans l.far.output | exact l.far.output.trans hb.output, Nat.le_trans l.far.size hb.size, fun k hk hne => by rw [hb.block k hk]; exact l.far.block k hk hne⟩⟩
/-- A row of ints in memory. -/
def Ints (w : World) (b : Nat) (xs : List Int) : Prop := ∀ j, j < xs.length → w.cell? ⟨b, j, none⟩ = some (.int .i64 (xs.getD j 0))
theorem ints_alloc (w : World) (xs : List Int) (t : TypeId) : Ints (w.alloc (.cells (xs.map (fun z => Value.int .i64 z)).toArray t)) w.heap.size xs := by
  intro j hj
  refine (World.cell?_alloc_mark w _ t (0, 0) j).trans ?_
  simp [List.getD, hj]
theorem new_block {w : World} (o : Obj) : Below w.heap.size w (w.alloc o) := (Below.refl _ _).alloc (Nat.le_refl _) _
/-- What Raw returns: a number. -/
def Told (e : Ending) : Prop := ∃ v : Int, e = .returned (.int .i64 v)
theorem raw_any {W w : World} {g : Nat} {a : Option Addr} {len cap : Nat} {zs : List Int} (h : Di W w g a len cap zs) :
    Calls Try.prog 24 #[.pointer (some ⟨g, 0, none⟩)] w fun e w' => Told e ∧ Left W w w' g a len cap zs := by
  obtain ⟨p, hp, hb⟩ := h.blk
  obtain ⟨c0, c1, f1⟩ := Di.cells hb
  have hs := h.small
  by_cases hq : p < len
  · obtain ⟨x, rfl, hlc, hcm, hzl, hcell, hwf⟩ : ∃ x, a = some x ∧ len ≤ cap ∧ cap ≤ maxLen ∧ zs.length = cap ∧ (∀ i, i < zs.length → W.cell? (x.add i) = some (.int .i64 (zs.getD i 0))) ∧ ∀ n ∈ zs, (Lit.int .i64 n).wf = true := by
      rcases h.row with ⟨_, e, _⟩ | h
      · omega
      · exact h
    obtain ⟨b, off, rfl, hc⟩ := ints_at hcell (by omega)
    have hlt := World.block_lt_of_cell? W _ (hc p (by omega))
    have hbg : b ≠ g := by have := h.base; simp at hlt; omega
    have hz : w.cell? ⟨b, off + p, none⟩ = some (.int .i64 (zs.getD p 0)) := by
      rw [h.bel.cell (p := ⟨b, off + p, none⟩) hlt]; exact hc p (by omega)
    generalize zs.getD p 0 = z at hz
    have d1 : decide ((len : Int) ≤ (p : Int)) = false := by simp; omega
    have H := Lib.hid h
    have HB := Lib.hid hb
    have HR : Hid (zs.length = cap) := hzl
    have hl1 := fun m => h.move m (p + 1) (by omega) p hb
    have k0 : ∀ m, ((w.drewN m).setCell ⟨g, 1, none⟩ (.int .i64 ((p + 1 : Nat) : Int))).cell? ⟨g, 0, none⟩ = some (.slice (some ⟨b, off, none⟩) len cap) := fun m =>
      cell_of_row _ g 0 _ _ _ ((heap_setCell_same (w.drewN m) g 1 _ _ (.int .i64 ((p + 1 : Nat) : Int)) hb).trans rfl)
    have k1 : ∀ m, ((w.drewN m).setCell ⟨g, 1, none⟩ (.int .i64 ((p + 1 : Nat) : Int))).cell? ⟨g, 1, none⟩ = some (.int .i64 ((p + 1 : Nat) : Int)) := fun m =>
      cell_of_row _ g 1 _ _ _ ((heap_setCell_same (w.drewN m) g 1 _ _ (.int .i64 ((p + 1 : Nat) : Int)) hb).trans rfl)
    have k2 : ∀ m, ((w.drewN m).setCell ⟨g, 1, none⟩ (.int .i64 ((p + 1 : Nat) : Int))).cell? ⟨b, off + p, none⟩ = some (.int .i64 z) := fun m => by
      rw [World.cell?_of_block (a := ⟨b, off + p, none⟩) (Below.heap_setCell (w.drewN m) _ _ b hbg)]; exact hz
    have e1 : ((p + 1 : Nat) : Int) = (p : Int) + 1 := by omega
    simp only [e1] at k0 k1 k2
    replace hl1 := Lib.hid hl1
    clear h hb hcell hc hwf hzl e1
    go_enter Try.func24, Try.ntmps24
    go_wp2_with fail
    go_quiet (fail)
    go_wp2_with fail
    go_quiet (fail)
    go_wp2
    go_ret
    exact ⟨⟨_, rfl⟩, (hl1.out _).trans ((hl1.out _).di.drewN _)⟩
  · have d1 : decide ((len : Int) ≤ (p : Int)) = true := by simp; omega
    have H := Lib.hid h
    clear h hb
    go_enter Try.func24, Try.ntmps24
    go_wp2_with fail
    go_quiet (fail)
    go_wp2
    go_ret
    exact ⟨⟨_, rfl⟩, H.out.drewN _⟩
/-- A number of the list, reduced. -/
theorem n_any {W w : World} {g : Nat} {a : Option Addr} {len cap : Nat} {zs : List Int} (n : Int) (h : Di W w g a len cap zs) (h1 : 1 ≤ n) (h2 : n ≤ 4611686018427387904) :
    Calls Try.prog 7 #[.pointer (some ⟨g, 0, none⟩), .int .i64 n] w fun e w' => Rolled n e ∧ Left W w w' g a len cap zs := by
  have H := Lib.hid h
  clear h
  go_enter Try.func7, Try.ntmps7
  go_wp2_with fail
  refine (raw_any H.out).mono ?_
  rintro e w1 ⟨⟨v, rfl⟩, hl⟩
  go_wp2_with (go_at_call 23; refine (Keep.mod_any v n _ h1 h2).mono ?_; rintro e w2 ⟨rfl, rfl⟩)
  go_ret
  exact ⟨.mk (Int.emod_nonneg _ (by omega)) (Int.emod_lt_of_pos _ (by omega)), hl⟩
end Src
end Go.Proofs.Ytldgihlhioeipaa
