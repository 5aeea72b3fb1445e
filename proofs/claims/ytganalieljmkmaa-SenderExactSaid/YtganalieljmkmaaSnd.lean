/- Contracts of package sender: New, Valid, Next, Push, Get. -/
import Derived.Test.YtganalieljmkmaaWithin
import Derived.ArgAppend
import Derived.Deep.RegionHeld
set_option linter.unusedVariables false
namespace Go.Proofs.Ytganalieljmkmaa
open Go.RowKit Wi Dice
namespace Snd
/-- The messages of a sender. -/
def Row (B : Nat) (w : World) (a : Option Addr) (n cap : Nat) (ms : List ByteArray) : Prop :=
  n = ms.length ∧ ((a = none ∧ n = 0 ∧ cap = 0) ∨
  ∃ g off, a = some ⟨g, off, none⟩ ∧ n ≤ cap ∧ cap ≤ maxLen ∧ B ≤ g ∧ g < w.heap.size ∧ ∀ j, j < n → w.cell? ⟨g, off + j, none⟩ = some (.string (ms.getD j ByteArray.empty)))
theorem Row.below {B : Nat} {w w' : World} {a : Option Addr} {n cap : Nat} {ms : List ByteArray} (h : Row B w a n cap ms) (hb : Below w.heap.size w w') : Row B w' a n cap ms := by
  refine ⟨h.1, ?_⟩
  rcases h.2 with h | ⟨g, off, e, h1, h2, h3, h4, h5⟩
  · exact .inl h
  · exact .inr ⟨g, off, e, h1, h2, h3, Nat.lt_of_lt_of_le h4 hb.size, fun j hj => by rw [hb.cell (p := ⟨g, off + j, none⟩) h4]; exact h5 j hj⟩
structure Good (size first : Int) (n : Nat) (ms : List ByteArray) : Prop where
  s1 : 1 ≤ size
  s2 : size ≤ 256
  f0 : 0 ≤ first
  f1 : first ≤ 1000
  le : (n : Int) ≤ size
  sm : ∀ j, j < n → (ms.getD j ByteArray.empty).size ≤ 4064
theorem valid_yes {B : Nat} {w : World} {a : Option Addr} {n cap : Nat} {ms : List ByteArray} (size first : Int) (gd : Good size first n ms) (h : Row B w a n cap ms) :
    Calls Try.prog 15 #[.agg #[.int .i64 size, .int .i64 first, .slice a n cap]] w fun e w' => e = .returned (.bool true) ∧ Below w.heap.size w w' := by
  obtain ⟨s1, s2, f0, f1, le, sm⟩ := gd
  have HS := Lib.hid sm
  clear sm
  obtain ⟨hn, hr⟩ := h
  replace hn := Lib.hid hn
  rcases hr with ⟨rfl, rfl, rfl⟩ | ⟨g, off, rfl, hc, hc2, hB, hg, hcell⟩
  · go_enter Try.func15, Try.ntmps15
    go_wp2_with (go_at_call 27; refine (within_yes _ _ _ _ (by omega) (by omega)).mono ?_; rintro e w' ⟨rfl, m, rfl⟩)
    go_loop [30] (fun i => i = .int .i64 0) (fun _ => 0)
    case atStart => rfl
    case round =>
      subst hrel
      go_wp2
      go_ret
      exact ⟨rfl, Buf.below_drewN (new_block _) _⟩
  · have HC := Lib.hid hcell
    clear hcell hc2
    go_enter Try.func15, Try.ntmps15
    go_wp2_with (go_at_call 27; refine (within_yes _ _ _ _ (by omega) (by omega)).mono ?_; rintro e w' ⟨rfl, m, rfl⟩)
    go_loopw [30] (fun i wr => ∃ k : Nat, k ≤ n ∧ i = .int .i64 k ∧ Below w.heap.size w wr) (fun i _ => n - (intOf i).toNat)
    case atStart => exact ⟨0, Nat.zero_le _, rfl, Buf.below_drewN (new_block _) _⟩
    case round =>
      obtain ⟨k, hk, rfl, hb⟩ := hrel
      have HB := Lib.hid hb
      by_cases hlt : k < n
      · have c : wr.cell? ⟨g, off + k, none⟩ = some (.string (ms.getD k ByteArray.empty)) := by rw [hb.cell (p := ⟨g, off + k, none⟩) hg]; exact HC.out k hlt
        have hs := HS.out k hlt
        generalize ms.getD k ByteArray.empty = s at c hs
        clear hb
        go_wp2
        go_roundw
        case rel => exact ⟨k + 1, by omega, by go_num, HB.out⟩
        case measure => simp [intOf]; omega
      · obtain rfl : k = n := by omega
        clear hb
        go_wp2
        go_ret
        exact ⟨rfl, HB.out⟩
theorem next_any {w : World} {a : Option Addr} {n cap : Nat} (size first : Int) (f0 : 0 ≤ first) (f1 : first ≤ 1000) (hn : n ≤ 256) :
    Calls Try.prog 17 #[.agg #[.int .i64 size, .int .i64 first, .slice a n cap]] w fun e w' => e = .returned (.int .i64 (first + n)) ∧ Below w.heap.size w w' := by
  go_enter Try.func17, Try.ntmps17
  go_wp2
  go_ret
  exact ⟨rfl, new_block _⟩
theorem new_any {w : World} (size : Int) (s1 : 1 ≤ size) (s2 : size ≤ 256) :
    Calls Try.prog 24 #[.int .i64 size] w fun e w' => e = .returned (.tuple #[.agg #[.int .i64 size, .int .i64 0, .slice none 0 0], .int .i64 0]) ∧ Below w.heap.size w w' := by
  go_enter Try.func24, Try.ntmps24
  go_wp2_with (go_at_call 27; refine (within_yes _ _ _ _ (by omega) (by omega)).mono ?_; rintro e w' ⟨rfl, m, rfl⟩)
  refine bodyPost_ret (v := .tuple #[.agg #[.int .i64 size, .int .i64 0, .slice none 0 0], .int .i64 0]) (by simp [results, Try.results24, go_sem]) rfl ⟨rfl, ?_⟩
  exact (((Buf.below_drewN (new_block _) _).setCell (Nat.le_refl _) _).setCell (Nat.le_refl _) _).setCell (Nat.le_refl _) _
theorem cells3 {w : World} {g : Nat} {x y z : Value} {t : TypeId} (h : w.heap[g]? = some (.cells #[x, y, z] t (0, 0))) : w.cell? ⟨g, 0, none⟩ = some x ∧ w.cell? ⟨g, 1, none⟩ = some y ∧ w.cell? ⟨g, 2, none⟩ = some z :=
  ⟨cell_of_row w g 0 _ _ _ h, cell_of_row w g 1 _ _ _ h, cell_of_row w g 2 _ _ _ h⟩
theorem free3 {w : World} {g : Nat} {x y z : Value} {t : TypeId} (h : w.heap[g]? = some (.cells #[x, y, z] t (0, 0))) : w.frozen? ⟨g, 0, none⟩ = false ∧ w.frozen? ⟨g, 1, none⟩ = false ∧ w.frozen? ⟨g, 2, none⟩ = false :=
  ⟨frozen_of_row w g 0 _ _ h, frozen_of_row w g 1 _ _ h, frozen_of_row w g 2 _ _ h⟩
theorem far {w : World} {t g : Nat} (h : t ≠ g) (k j : Nat) (v : Value) : (w.setCell ⟨t, k, none⟩ v).cell? ⟨g, j, none⟩ = w.cell? ⟨g, j, none⟩ := World.cell?_setCell_far _ _ _ _ h
theorem two_old (w : World) (o p : Obj) : ((w.alloc o).alloc p).heap[w.heap.size]? = some o := (heap_alloc_old (w.alloc o) p (by simp)).trans (heap_alloc_new w o)
theorem two_new (w : World) (o p : Obj) : ((w.alloc o).alloc p).heap[w.heap.size + 1]? = some p := by
  have e : (w.alloc o).heap.size = w.heap.size + 1 := by simp
  rw [← e]; exact heap_alloc_new _ _
theorem infoS : (Try.prog.info? 9).map (fun i => (i.zero, i.size, i.bytes)) = some (some (.string ⟨#[]⟩), 1, 16) := by kernel_rfl
end Snd
end Go.Proofs.Ytganalieljmkmaa
