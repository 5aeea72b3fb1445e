/- GeoAI: texts joined. -/
import Derived.Test.YtldgihlhioeipaaKeep
import Derived.Laws.ResultCell
import Derived.OwnWalk
import Derived.Deep.RegionWith
import Derived.Maps.AppendAt
import Derived.Deep.DeepCutAuto
import Derived.Deep.RegionHeld3
/- Contracts of package geometry. -/
namespace Go.Proofs.Ytldgihlhioeipaa
open Go.RowKit
namespace Geo
theorem blk_below {w w' : World} {g : Nat} {o : Obj} (h : w.heap[g]? = some o) (hb : Below w.heap.size w w') : w'.heap[g]? = some o := by
  rw [hb.block g (Array.getElem?_eq_some_iff.1 h).1]; exact h
theorem blk_b {w w' : World} {g : Nat} {o : Obj} (hb : Below w.heap.size w w') (h : w.heap[g]? = some o) : w'.heap[g]? = some o := blk_below h hb
theorem new_block {w : World} (o : Obj) : Below w.heap.size w (w.alloc o) := (Below.refl _ _).alloc (Nat.le_refl _) _
theorem blk_alloc {w : World} {g : Nat} {o : Obj} (h : w.heap[g]? = some o) (o' : Obj) : (w.alloc o').heap[g]? = some o := blk_below h (new_block _)
theorem blk_new (w : World) (o : Obj) : (w.alloc o).heap[w.heap.size]? = some o := heap_alloc_new _ _
theorem blk_new1 (w : World) (p o : Obj) : ((w.alloc p).alloc o).heap[w.heap.size + 1]? = some o := by
  have e : (w.alloc p).heap.size = w.heap.size + 1 := by simp
  rw [← e]; exact heap_alloc_new _ _
theorem blk_new2 (w : World) (q p o : Obj) : (((w.alloc q).alloc p).alloc o).heap[w.heap.size + 1 + 1]? = some o := by
  have e : ((w.alloc q).alloc p).heap.size = w.heap.size + 1 + 1 := by simp
  rw [← e]; exact heap_alloc_new _ _
set_option maxRecDepth 100000 in
theorem coords_any (x y z : Int) (w : World) :
    Calls Try.prog 72 #[.agg #[.int .i64 x, .int .i64 y, .int .i64 z]] w fun e w' => e = .returned (.agg #[.int .i64 x, .int .i64 y, .int .i64 z]) ∧ Below w.heap.size w w' := by
  go_enter Try.func72, Try.ntmps72
  go_wp2
  exact bodyPost_ret (results_cell_row rfl _ _ (w.heap.size + 1) _ _ _ _ rfl (blk_new1 _ _ _) rfl (by rfl) rfl) rfl ⟨rfl, ((Below.refl _ _).alloc (Nat.le_refl _) _).alloc (by simp) _⟩
/-- Three cells of a block. -/
theorem cells3 {w : World} {g : Nat} {x y z : Value} {t : TypeId} (h : w.heap[g]? = some (.cells #[x, y, z] t (0, 0))) : w.cell? ⟨g, 0, none⟩ = some x ∧ w.cell? ⟨g, 1, none⟩ = some y ∧ w.cell? ⟨g, 2, none⟩ = some z ∧ w.frozen? ⟨g, 0, none⟩ = false ∧ w.frozen? ⟨g, 1, none⟩ = false ∧ w.frozen? ⟨g, 2, none⟩ = false :=
  ⟨cell_of_row w g 0 _ _ _ h, cell_of_row w g 1 _ _ _ h, cell_of_row w g 2 _ _ _ h, frozen_of_row w g 0 _ _ h, frozen_of_row w g 1 _ _ h, frozen_of_row w g 2 _ _ h⟩
theorem cells6 {w : World} {g : Nat} {a b c d e f : Value} {t : TypeId} (h : w.heap[g]? = some (.cells #[a, b, c, d, e, f] t (0, 0))) : w.cell? ⟨g, 0, none⟩ = some a ∧ w.cell? ⟨g, 1, none⟩ = some b ∧ w.cell? ⟨g, 2, none⟩ = some c ∧ w.cell? ⟨g, 3, none⟩ = some d ∧ w.cell? ⟨g, 4, none⟩ = some e ∧ w.cell? ⟨g, 5, none⟩ = some f :=
  ⟨cell_of_row w g 0 _ _ _ h, cell_of_row w g 1 _ _ _ h, cell_of_row w g 2 _ _ _ h, cell_of_row w g 3 _ _ _ h, cell_of_row w g 4 _ _ _ h, cell_of_row w g 5 _ _ _ h⟩
/-- Three stores into a block. -/
theorem st3 {w : World} {g : Nat} {u v r : Value} {t : TypeId} (h : w.heap[g]? = some (.cells #[u, v, r] t (0, 0))) (x y z : Value) :
    (((w.setCell ⟨g, 0, none⟩ x).setCell ⟨g, 1, none⟩ y).setCell ⟨g, 2, none⟩ z).heap[g]? = some (.cells #[x, y, z] t (0, 0)) := by
  have h1 : (w.setCell ⟨g, 0, none⟩ x).heap[g]? = some (.cells #[x, v, r] t (0, 0)) := (heap_setCell_same w g 0 _ _ x h).trans rfl
  have h2 : ((w.setCell ⟨g, 0, none⟩ x).setCell ⟨g, 1, none⟩ y).heap[g]? = some (.cells #[x, y, r] t (0, 0)) := (heap_setCell_same _ g 1 _ _ y h1).trans rfl
  exact (heap_setCell_same _ g 2 _ _ z h2).trans rfl
theorem st3_other (w : World) {g k : Nat} (hk : k ≠ g) (x y z : Value) : (((w.setCell ⟨g, 0, none⟩ x).setCell ⟨g, 1, none⟩ y).setCell ⟨g, 2, none⟩ z).heap[k]? = w.heap[k]? := by
  rw [Below.heap_setCell _ _ _ k hk, Below.heap_setCell _ _ _ k hk, Below.heap_setCell _ _ _ k hk]
theorem st3_below {B : Nat} {a w : World} (h : Below B a w) {g : Nat} (hg : B ≤ g) (x y z : Value) : Below B a (((w.setCell ⟨g, 0, none⟩ x).setCell ⟨g, 1, none⟩ y).setCell ⟨g, 2, none⟩ z) :=
  ((h.setCell hg _).setCell hg _).setCell hg _
theorem results_two_rows {P : Program} {fn : Func} {p q : Tmp} {ty ty2 : TypeId} (h : fn.results = #[.cell p ty, .cell q ty2]) (tmps : Array Value) (w : World) (g k : Nat) (t t2 : TypeId) (cs cs2 : Array Value) (fr fr2 : Nat × Nat) (d d2 : TypeDesc)
    (hp : tmps.getD p undef = .pointer (some ⟨g, 0, none⟩)) (hg : w.heap[g]? = some (.cells cs t fr))
    (hu : P.underlying ty = some d) (hd : (match d with | .struct _ | .array _ _ => true | _ => false) = true) (hi : (P.info? ty).map (·.size) = some cs.size)
    (hq : tmps.getD q undef = .pointer (some ⟨k, 0, none⟩)) (hk : w.heap[k]? = some (.cells cs2 t2 fr2))
    (hu2 : P.underlying ty2 = some d2) (hd2 : (match d2 with | .struct _ | .array _ _ => true | _ => false) = true) (hi2 : (P.info? ty2).map (·.size) = some cs2.size) :
    (results fn tmps).run P w = .ok (.tuple #[.agg cs, .agg cs2]) w := by
  have hp' : tmps[p]?.getD undef = .pointer (some ⟨g, 0, none⟩) := by simpa using hp
  have hq' : tmps[q]?.getD undef = .pointer (some ⟨k, 0, none⟩) := by simpa using hq
  simp [results, h, hp', hq', asAddr, run_loadVar_row w g t ty cs fr d hg hu hd hi, run_loadVar_row w k t2 ty2 cs2 fr2 d2 hk hu2 hd2 hi2]
end Geo
end Go.Proofs.Ytldgihlhioeipaa

/- Contracts of package geometry: Valid and Square. -/
namespace Go.Proofs.Ytldgihlhioeipaa
open Go.RowKit
namespace Geo
/-- A valid position. -/
structure PV (x y z : Int) : Prop where
  x0 : -1048576 ≤ x
  x1 : x ≤ 1048576
  y0 : -1048576 ≤ y
  y1 : y ≤ 1048576
  z0 : -16384 ≤ z
  z1 : z ≤ 1048576
theorem ix0 (x y z : Value) (w : World) : (Instr.index 95 (.agg #[x, y, z]) (.int .i64 0)).run Try.prog w = .ok x w := by kernel_rfl
theorem ix1 (x y z : Value) (w : World) : (Instr.index 95 (.agg #[x, y, z]) (.int .i64 1)).run Try.prog w = .ok y w := by kernel_rfl
theorem ix2 (x y z : Value) (w : World) : (Instr.index 95 (.agg #[x, y, z]) (.int .i64 2)).run Try.prog w = .ok z w := by kernel_rfl
theorem valid_yes (x y z : Int) (h : PV x y z) (w : World) :
    Calls Try.prog 79 #[.agg #[.int .i64 x, .int .i64 y, .int .i64 z]] w fun e w' => e = .returned (.bool true) ∧ Below w.heap.size w w' := by
  obtain ⟨x0, x1, y0, y1, z0, z1⟩ := h
  have i0 := ix0 (.int .i64 x) (.int .i64 y) (.int .i64 z)
  have i1 := ix1 (.int .i64 x) (.int .i64 y) (.int .i64 z)
  have i2 := ix2 (.int .i64 x) (.int .i64 y) (.int .i64 z)
  go_enter Try.func79, Try.ntmps79
  have g2 := blk_new1 w (.cells #[.int .i64 x, .int .i64 y, .int .i64 z] 24) (.cells #[.int .i64 (-1048576), .int .i64 (-1048576), .int .i64 (-16384)] 95)
  have hW : Below w.heap.size w ((w.alloc (.cells #[.int .i64 x, .int .i64 y, .int .i64 z] 24)).alloc (.cells #[.int .i64 (-1048576), .int .i64 (-1048576), .int .i64 (-16384)] 95)) := ((Below.refl _ _).alloc (Nat.le_refl _) _).alloc (by simp) _
  replace g2 := Lib.hid g2
  replace hW := Lib.hid hW
  go_wp2_with (go_at_call 72; refine (coords_any _ _ _ _).mono ?_; rintro r w1 ⟨rfl, hb⟩; replace g2 := Lib.hid (blk_b hb g2.out); replace hW := Lib.hid (Buf.then_ hW.out hb); obtain ⟨b1, b2, b3, _, _, _⟩ := cells3 g2.out; clear hb)
  go_loop [9] (fun i => ∃ k : Nat, k ≤ 3 ∧ i = .int .i64 k) (fun i => (3 - intOf i).toNat)
  case atStart => exact ⟨0, by omega, rfl⟩
  case round =>
    obtain ⟨k, hk, rfl⟩ := hrel
    by_cases h0 : k = 0
    · subst h0
      go_wp2
      go_round
      case rel => exact ⟨1, by omega, rfl⟩
      case measure => simp [intOf]
    by_cases h1 : k = 1
    · subst h1
      go_wp2
      go_round
      case rel => exact ⟨2, by omega, rfl⟩
      case measure => simp [intOf]
    by_cases h2 : k = 2
    · subst h2
      go_wp2
      go_round
      case rel => exact ⟨3, by omega, rfl⟩
      case measure => simp [intOf]
    obtain rfl : k = 3 := by omega
    go_wp2
    go_ret
    exact ⟨rfl, hW.out⟩
end Geo
end Go.Proofs.Ytldgihlhioeipaa

/- Laws on blocks of three and six cells. -/
namespace Go.Proofs.Ytldgihlhioeipaa
open Go.RowKit
namespace Geo
theorem st6_far {w : World} {t : Nat} {a b c d e f : Value} {x : Addr} (h : t ≠ x.block) : ((((((w.setCell ⟨t, 0, none⟩ a).setCell ⟨t, 1, none⟩ b).setCell ⟨t, 2, none⟩ c).setCell ⟨t, 3, none⟩ d).setCell ⟨t, 4, none⟩ e).setCell ⟨t, 5, none⟩ f).cell? x = w.cell? x := by
  rw [World.cell?_setCell_far _ _ _ _ h, World.cell?_setCell_far _ _ _ _ h, World.cell?_setCell_far _ _ _ _ h, World.cell?_setCell_far _ _ _ _ h, World.cell?_setCell_far _ _ _ _ h, World.cell?_setCell_far _ _ _ _ h]
theorem st6 {w : World} {g : Nat} {a b c d e f : Value} {t : TypeId} (h : w.heap[g]? = some (.cells #[a, b, c, d, e, f] t (0, 0))) (x0 x1 x2 x3 x4 x5 : Value) :
    ((((((w.setCell ⟨g, 0, none⟩ x0).setCell ⟨g, 1, none⟩ x1).setCell ⟨g, 2, none⟩ x2).setCell ⟨g, 3, none⟩ x3).setCell ⟨g, 4, none⟩ x4).setCell ⟨g, 5, none⟩ x5).heap[g]? = some (.cells #[x0, x1, x2, x3, x4, x5] t (0, 0)) := by
  have h0 : (w.setCell ⟨g, 0, none⟩ x0).heap[g]? = some (.cells #[x0, b, c, d, e, f] t (0, 0)) := (heap_setCell_same w g 0 _ _ x0 h).trans rfl
  have h1 := (heap_setCell_same _ g 1 _ _ x1 h0)
  have h2 := (heap_setCell_same _ g 2 _ _ x2 h1)
  have h3 := (heap_setCell_same _ g 3 _ _ x3 h2)
  have h4 := (heap_setCell_same _ g 4 _ _ x4 h3)
  exact (heap_setCell_same _ g 5 _ _ x5 h4).trans rfl
theorem st6_other (w : World) {g k : Nat} (hk : k ≠ g) (x0 x1 x2 x3 x4 x5 : Value) : ((((((w.setCell ⟨g, 0, none⟩ x0).setCell ⟨g, 1, none⟩ x1).setCell ⟨g, 2, none⟩ x2).setCell ⟨g, 3, none⟩ x3).setCell ⟨g, 4, none⟩ x4).setCell ⟨g, 5, none⟩ x5).heap[k]? = w.heap[k]? := by
  rw [Below.heap_setCell _ _ _ k hk, Below.heap_setCell _ _ _ k hk, Below.heap_setCell _ _ _ k hk, Below.heap_setCell _ _ _ k hk, Below.heap_setCell _ _ _ k hk, Below.heap_setCell _ _ _ k hk]
theorem st6_below {B : Nat} {a w : World} (h : Below B a w) {g : Nat} (hg : B ≤ g) (x0 x1 x2 x3 x4 x5 : Value) : Below B a ((((((w.setCell ⟨g, 0, none⟩ x0).setCell ⟨g, 1, none⟩ x1).setCell ⟨g, 2, none⟩ x2).setCell ⟨g, 3, none⟩ x3).setCell ⟨g, 4, none⟩ x4).setCell ⟨g, 5, none⟩ x5) :=
  (((((h.setCell hg _).setCell hg _).setCell hg _).setCell hg _).setCell hg _).setCell hg _
theorem results_two_rows_tmp {P : Program} {fn : Func} {p q u : Tmp} {ty ty2 : TypeId} (h : fn.results = #[.cell p ty, .cell q ty2, .tmp u]) (tmps : Array Value) (w : World) (g k : Nat) (t t2 : TypeId) (cs cs2 : Array Value) (fr fr2 : Nat × Nat) (d d2 : TypeDesc)
    (hp : tmps.getD p undef = .pointer (some ⟨g, 0, none⟩)) (hg : w.heap[g]? = some (.cells cs t fr))
    (hu : P.underlying ty = some d) (hd : (match d with | .struct _ | .array _ _ => true | _ => false) = true) (hi : (P.info? ty).map (·.size) = some cs.size)
    (hq : tmps.getD q undef = .pointer (some ⟨k, 0, none⟩)) (hk : w.heap[k]? = some (.cells cs2 t2 fr2))
    (hu2 : P.underlying ty2 = some d2) (hd2 : (match d2 with | .struct _ | .array _ _ => true | _ => false) = true) (hi2 : (P.info? ty2).map (·.size) = some cs2.size) :
    (results fn tmps).run P w = .ok (.tuple #[.agg cs, .agg cs2, tmps.getD u undef]) w := by
  have hp' : tmps[p]?.getD undef = .pointer (some ⟨g, 0, none⟩) := by simpa using hp
  have hq' : tmps[q]?.getD undef = .pointer (some ⟨k, 0, none⟩) := by simpa using hq
  simp [results, h, hp', hq', asAddr, run_loadVar_row w g t ty cs fr d hg hu hd hi, run_loadVar_row w k t2 ty2 cs2 fr2 d2 hk hu2 hd2 hi2]
theorem keepc {w w' : World} (hb : Below w.heap.size w w') {a : Addr} {v : Value} (h : w.cell? a = some v) : w'.cell? a = some v := by
  rw [hb.cell (World.block_lt_of_cell? w _ h)]; exact h
theorem cells6f {w : World} {g : Nat} {a b c d e f : Value} {t : TypeId} (h : w.heap[g]? = some (.cells #[a, b, c, d, e, f] t (0, 0))) : w.cell? ⟨g, 0, none⟩ = some a ∧ w.cell? ⟨g, 1, none⟩ = some b ∧ w.cell? ⟨g, 2, none⟩ = some c ∧ w.cell? ⟨g, 3, none⟩ = some d ∧ w.cell? ⟨g, 4, none⟩ = some e ∧ w.cell? ⟨g, 5, none⟩ = some f ∧
    w.frozen? ⟨g, 0, none⟩ = false ∧ w.frozen? ⟨g, 1, none⟩ = false ∧ w.frozen? ⟨g, 2, none⟩ = false ∧ w.frozen? ⟨g, 3, none⟩ = false ∧ w.frozen? ⟨g, 4, none⟩ = false ∧ w.frozen? ⟨g, 5, none⟩ = false :=
  ⟨cell_of_row w g 0 _ _ _ h, cell_of_row w g 1 _ _ _ h, cell_of_row w g 2 _ _ _ h, cell_of_row w g 3 _ _ _ h, cell_of_row w g 4 _ _ _ h, cell_of_row w g 5 _ _ _ h, frozen_of_row w g 0 _ _ h, frozen_of_row w g 1 _ _ h, frozen_of_row w g 2 _ _ h, frozen_of_row w g 3 _ _ h, frozen_of_row w g 4 _ _ h, frozen_of_row w g 5 _ _ h⟩
end Geo
end Go.Proofs.Ytldgihlhioeipaa

/- Contracts of package geometry, whatever the positions: Valid, Square. -/
namespace Go.Proofs.Ytldgihlhioeipaa
open Go.RowKit
namespace Geo
def pvB (x y z : Int) : Bool := decide (-1048576 ≤ x ∧ x ≤ 1048576 ∧ -1048576 ≤ y ∧ y ≤ 1048576 ∧ -16384 ≤ z ∧ z ≤ 1048576)
theorem pvB_yes {x y z : Int} (h : pvB x y z = true) : PV x y z := by
  simp only [pvB, decide_eq_true_eq] at h
  exact ⟨h.1, h.2.1, h.2.2.1, h.2.2.2.1, h.2.2.2.2.1, h.2.2.2.2.2⟩
theorem pvB_of {x y z : Int} (h : PV x y z) : pvB x y z = true := by
  simp only [pvB, decide_eq_true_eq]
  exact ⟨h.x0, h.x1, h.y0, h.y1, h.z0, h.z1⟩
theorem pvB_out {x y z : Int} (h : pvB x y z = false) : x < -1048576 ∨ 1048576 < x ∨ (-1048576 ≤ x ∧ x ≤ 1048576 ∧ y < -1048576) ∨ (-1048576 ≤ x ∧ x ≤ 1048576 ∧ 1048576 < y) ∨ (-1048576 ≤ x ∧ x ≤ 1048576 ∧ -1048576 ≤ y ∧ y ≤ 1048576 ∧ z < -16384) ∨ (-1048576 ≤ x ∧ x ≤ 1048576 ∧ -1048576 ≤ y ∧ y ≤ 1048576 ∧ 1048576 < z) := by
  simp only [pvB, decide_eq_false_iff_not] at h; omega
set_option maxHeartbeats 1000000 in
theorem valid_no (x y z : Int) (h : pvB x y z = false) (w : World) :
    Calls Try.prog 79 #[.agg #[.int .i64 x, .int .i64 y, .int .i64 z]] w fun e w' => e = .returned (.bool false) ∧ Below w.heap.size w w' := by
  have ho := pvB_out h
  clear h
  have i0 := ix0 (.int .i64 x) (.int .i64 y) (.int .i64 z)
  have i1 := ix1 (.int .i64 x) (.int .i64 y) (.int .i64 z)
  have i2 := ix2 (.int .i64 x) (.int .i64 y) (.int .i64 z)
  have g2 := Lib.hid (blk_new1 w (.cells #[.int .i64 x, .int .i64 y, .int .i64 z] 24) (.cells #[.int .i64 (-1048576), .int .i64 (-1048576), .int .i64 (-16384)] 95))
  have hW : Hid (Below w.heap.size w ((w.alloc (.cells #[.int .i64 x, .int .i64 y, .int .i64 z] 24)).alloc (.cells #[.int .i64 (-1048576), .int .i64 (-1048576), .int .i64 (-16384)] 95))) := Lib.hid (((Below.refl _ _).alloc (Nat.le_refl _) _).alloc (by simp) _)
  rcases ho with ho | ho | ⟨q0, q1, ho⟩ | ⟨q0, q1, ho⟩ | ⟨q0, q1, q2, q3, ho⟩ | ⟨q0, q1, q2, q3, ho⟩
  · go_enter Try.func79, Try.ntmps79
    go_wp2_with (go_at_call 72; refine (coords_any _ _ _ _).mono ?_; rintro r w1 ⟨rfl, hb⟩; replace g2 := Lib.hid (blk_b hb g2.out); replace hW := Lib.hid (Buf.then_ hW.out hb); obtain ⟨b1, b2, b3, _, _, _⟩ := cells3 g2.out; clear hb)
    go_loop [9] (fun i => ∃ k : Nat, k ≤ 0 ∧ i = .int .i64 k) (fun i => (0 - intOf i).toNat)
    case atStart => exact ⟨0, by omega, rfl⟩
    case round =>
      obtain ⟨k, hk, rfl⟩ := hrel
      obtain rfl : k = 0 := by omega
      go_wp2
      go_ret
      exact ⟨rfl, hW.out⟩
  · go_enter Try.func79, Try.ntmps79
    go_wp2_with (go_at_call 72; refine (coords_any _ _ _ _).mono ?_; rintro r w1 ⟨rfl, hb⟩; replace g2 := Lib.hid (blk_b hb g2.out); replace hW := Lib.hid (Buf.then_ hW.out hb); obtain ⟨b1, b2, b3, _, _, _⟩ := cells3 g2.out; clear hb)
    go_loop [9] (fun i => ∃ k : Nat, k ≤ 0 ∧ i = .int .i64 k) (fun i => (0 - intOf i).toNat)
    case atStart => exact ⟨0, by omega, rfl⟩
    case round =>
      obtain ⟨k, hk, rfl⟩ := hrel
      obtain rfl : k = 0 := by omega
      go_wp2
      go_ret
      exact ⟨rfl, hW.out⟩
  · go_enter Try.func79, Try.ntmps79
    go_wp2_with (go_at_call 72; refine (coords_any _ _ _ _).mono ?_; rintro r w1 ⟨rfl, hb⟩; replace g2 := Lib.hid (blk_b hb g2.out); replace hW := Lib.hid (Buf.then_ hW.out hb); obtain ⟨b1, b2, b3, _, _, _⟩ := cells3 g2.out; clear hb)
    go_loop [9] (fun i => ∃ k : Nat, k ≤ 1 ∧ i = .int .i64 k) (fun i => (1 - intOf i).toNat)
    case atStart => exact ⟨0, by omega, rfl⟩
    case round =>
      obtain ⟨k, hk, rfl⟩ := hrel
      by_cases h0 : k = 0
      · subst h0
        go_wp2
        go_round
        case rel => exact ⟨1, by omega, rfl⟩
        case measure => simp [intOf]
      obtain rfl : k = 1 := by omega
      go_wp2
      go_ret
      exact ⟨rfl, hW.out⟩
  · go_enter Try.func79, Try.ntmps79
    go_wp2_with (go_at_call 72; refine (coords_any _ _ _ _).mono ?_; rintro r w1 ⟨rfl, hb⟩; replace g2 := Lib.hid (blk_b hb g2.out); replace hW := Lib.hid (Buf.then_ hW.out hb); obtain ⟨b1, b2, b3, _, _, _⟩ := cells3 g2.out; clear hb)
    go_loop [9] (fun i => ∃ k : Nat, k ≤ 1 ∧ i = .int .i64 k) (fun i => (1 - intOf i).toNat)
    case atStart => exact ⟨0, by omega, rfl⟩
    case round =>
      obtain ⟨k, hk, rfl⟩ := hrel
      by_cases h0 : k = 0
      · subst h0
        go_wp2
        go_round
        case rel => exact ⟨1, by omega, rfl⟩
        case measure => simp [intOf]
      obtain rfl : k = 1 := by omega
      go_wp2
      go_ret
      exact ⟨rfl, hW.out⟩
  · go_enter Try.func79, Try.ntmps79
    go_wp2_with (go_at_call 72; refine (coords_any _ _ _ _).mono ?_; rintro r w1 ⟨rfl, hb⟩; replace g2 := Lib.hid (blk_b hb g2.out); replace hW := Lib.hid (Buf.then_ hW.out hb); obtain ⟨b1, b2, b3, _, _, _⟩ := cells3 g2.out; clear hb)
    go_loop [9] (fun i => ∃ k : Nat, k ≤ 2 ∧ i = .int .i64 k) (fun i => (2 - intOf i).toNat)
    case atStart => exact ⟨0, by omega, rfl⟩
    case round =>
      obtain ⟨k, hk, rfl⟩ := hrel
      by_cases h0 : k = 0
      · subst h0
        go_wp2
        go_round
        case rel => exact ⟨1, by omega, rfl⟩
        case measure => simp [intOf]
      by_cases h1 : k = 1
      · subst h1
        go_wp2
        go_round
        case rel => exact ⟨2, by omega, rfl⟩
        case measure => simp [intOf]
      obtain rfl : k = 2 := by omega
      go_wp2
      go_ret
      exact ⟨rfl, hW.out⟩
  · go_enter Try.func79, Try.ntmps79
    go_wp2_with (go_at_call 72; refine (coords_any _ _ _ _).mono ?_; rintro r w1 ⟨rfl, hb⟩; replace g2 := Lib.hid (blk_b hb g2.out); replace hW := Lib.hid (Buf.then_ hW.out hb); obtain ⟨b1, b2, b3, _, _, _⟩ := cells3 g2.out; clear hb)
    go_loop [9] (fun i => ∃ k : Nat, k ≤ 2 ∧ i = .int .i64 k) (fun i => (2 - intOf i).toNat)
    case atStart => exact ⟨0, by omega, rfl⟩
    case round =>
      obtain ⟨k, hk, rfl⟩ := hrel
      by_cases h0 : k = 0
      · subst h0
        go_wp2
        go_round
        case rel => exact ⟨1, by omega, rfl⟩
        case measure => simp [intOf]
      by_cases h1 : k = 1
      · subst h1
        go_wp2
        go_round
        case rel => exact ⟨2, by omega, rfl⟩
        case measure => simp [intOf]
      obtain rfl : k = 2 := by omega
      go_wp2
      go_ret
      exact ⟨rfl, hW.out⟩
theorem bl_alloc {w w1 : World} {o : Obj} (h : Below w.heap.size w w1) : Below w.heap.size w (w1.alloc o) := Buf.then_ h (new_block o)
theorem blk_drew {w : World} {g : Nat} {o : Obj} (h : w.heap[g]? = some o) : w.drew.heap[g]? = some o := h
theorem valid_any (x y z : Int) (w : World) :
    Calls Try.prog 79 #[.agg #[.int .i64 x, .int .i64 y, .int .i64 z]] w fun e w' => e = .returned (.bool (pvB x y z)) ∧ Below w.heap.size w w' := by
  cases h : pvB x y z with
  | true => exact valid_yes x y z (pvB_yes h) w
  | false => exact valid_no x y z h w
theorem prod_bd {u m : Int} (h0 : -m ≤ u) (h1 : u ≤ m) : 0 ≤ u * u ∧ u * u ≤ m * m := by
  constructor
  · by_cases h : 0 ≤ u
    · exact Int.mul_nonneg h h
    · have := Int.mul_nonneg (show 0 ≤ -u by omega) (show 0 ≤ -u by omega); rwa [Int.neg_mul_neg] at this
  · by_cases h : 0 ≤ u
    · exact Int.mul_le_mul h1 h1 h (by omega)
    · have := Int.mul_le_mul (show -u ≤ m by omega) (show -u ≤ m by omega) (show 0 ≤ -u by omega) (by omega); rwa [Int.neg_mul_neg] at this
theorem sq_bd {u : Int} (h0 : -2097152 ≤ u) (h1 : u ≤ 2097152) : 0 ≤ u * u ∧ u * u ≤ 4398046511104 := by
  have := prod_bd h0 h1; omega
end Geo
end Go.Proofs.Ytldgihlhioeipaa

/- Contracts of package geometry: Square. -/
namespace Go.Proofs.Ytldgihlhioeipaa
open Go.RowKit
namespace Geo
end Geo
end Go.Proofs.Ytldgihlhioeipaa
