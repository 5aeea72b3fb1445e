/- Contracts of package geometry, whatever the positions: Valid, Square. -/
import Derived.Test.YtklgnbimfobgkaaGeoX
namespace Go.Proofs.Ytklgnbimfobgkaa
open Go.RowKit
namespace Geo
def pvB (x y z : Int) : Bool := decide (-1048576 ≤ x ∧ x ≤ 1048576 ∧ -1048576 ≤ y ∧ y ≤ 1048576 ∧ -16384 ≤ z ∧ z ≤ 1048576)
theorem pvB_yes {x y z : Int} (h : pvB x y z = true) : PV x y z := by
  simp only [pvB, decide_eq_true_eq] at h
  exact ⟨h.1, h.2.1, h.2.2.1, h.2.2.2.1, h.2.2.2.2.1, h.2.2.2.2.2⟩
theorem pvB_of {x y z : Int} (h : PV x y z) : pvB x y z = true := by
  simp only [pvB, decide_eq_true_eq]
  exact ⟨h.x0, h.x1, h.y0, h.y1, h.z0, h.z1⟩
theorem pvB_no {x y z : Int} (h : x < -1048576 ∨ 1048576 < x ∨ y < -1048576 ∨ 1048576 < y ∨ z < -16384 ∨ 1048576 < z) : pvB x y z = false := by
  simp only [pvB, decide_eq_false_iff_not]; omega
theorem pvB_out {x y z : Int} (h : pvB x y z = false) : x < -1048576 ∨ 1048576 < x ∨ (-1048576 ≤ x ∧ x ≤ 1048576 ∧ y < -1048576) ∨ (-1048576 ≤ x ∧ x ≤ 1048576 ∧ 1048576 < y) ∨ (-1048576 ≤ x ∧ x ≤ 1048576 ∧ -1048576 ≤ y ∧ y ≤ 1048576 ∧ z < -16384) ∨ (-1048576 ≤ x ∧ x ≤ 1048576 ∧ -1048576 ≤ y ∧ y ≤ 1048576 ∧ 1048576 < z) := by
  simp only [pvB, decide_eq_false_iff_not] at h; omega
set_option maxHeartbeats 1000000 in
theorem valid_no (x y z : Int) (h : pvB x y z = false) (w : World) :
    Calls Try.prog 36 #[.agg #[.int .i64 x, .int .i64 y, .int .i64 z]] w fun e w' => e = .returned (.bool false) ∧ Below w.heap.size w w' := by
  have ho := pvB_out h
  clear h
  have i0 := ix0 (.int .i64 x) (.int .i64 y) (.int .i64 z)
  have i1 := ix1 (.int .i64 x) (.int .i64 y) (.int .i64 z)
  have i2 := ix2 (.int .i64 x) (.int .i64 y) (.int .i64 z)
  have g2 := Lib.hid (blk_new1 w (.cells #[.int .i64 x, .int .i64 y, .int .i64 z] 23) (.cells #[.int .i64 (-1048576), .int .i64 (-1048576), .int .i64 (-16384)] 55))
  have hW : Hid (Below w.heap.size w ((w.alloc (.cells #[.int .i64 x, .int .i64 y, .int .i64 z] 23)).alloc (.cells #[.int .i64 (-1048576), .int .i64 (-1048576), .int .i64 (-16384)] 55))) := Lib.hid (((Below.refl _ _).alloc (Nat.le_refl _) _).alloc (by simp) _)
  rcases ho with ho | ho | ⟨q0, q1, ho⟩ | ⟨q0, q1, ho⟩ | ⟨q0, q1, q2, q3, ho⟩ | ⟨q0, q1, q2, q3, ho⟩
  · go_enter Try.func36, Try.ntmps36
    go_wp2_with (go_at_call 50; refine (coords_any _ _ _ _).mono ?_; rintro r w1 ⟨rfl, hb⟩; replace g2 := Lib.hid (blk_b hb g2.out); replace hW := Lib.hid (Buf.then_ hW.out hb); obtain ⟨b1, b2, b3, _, _, _⟩ := cells3 g2.out; clear hb)
    go_loop [9] (fun i => ∃ k : Nat, k ≤ 0 ∧ i = .int .i64 k) (fun i => (0 - intOf i).toNat)
    case atStart => exact ⟨0, by omega, rfl⟩
    case round =>
      obtain ⟨k, hk, rfl⟩ := hrel
      obtain rfl : k = 0 := by omega
      go_wp2
      go_ret
      exact ⟨rfl, hW.out⟩
  · go_enter Try.func36, Try.ntmps36
    go_wp2_with (go_at_call 50; refine (coords_any _ _ _ _).mono ?_; rintro r w1 ⟨rfl, hb⟩; replace g2 := Lib.hid (blk_b hb g2.out); replace hW := Lib.hid (Buf.then_ hW.out hb); obtain ⟨b1, b2, b3, _, _, _⟩ := cells3 g2.out; clear hb)
    go_loop [9] (fun i => ∃ k : Nat, k ≤ 0 ∧ i = .int .i64 k) (fun i => (0 - intOf i).toNat)
    case atStart => exact ⟨0, by omega, rfl⟩
    case round =>
      obtain ⟨k, hk, rfl⟩ := hrel
      obtain rfl : k = 0 := by omega
      go_wp2
      go_ret
      exact ⟨rfl, hW.out⟩
  · go_enter Try.func36, Try.ntmps36
    go_wp2_with (go_at_call 50; refine (coords_any _ _ _ _).mono ?_; rintro r w1 ⟨rfl, hb⟩; replace g2 := Lib.hid (blk_b hb g2.out); replace hW := Lib.hid (Buf.then_ hW.out hb); obtain ⟨b1, b2, b3, _, _, _⟩ := cells3 g2.out; clear hb)
    go_loop [9] (fun i => ∃ k : Nat, k ≤ 1 ∧ i = .int .i64 k) (fun i => (1 - intOf i).toNat)
    case atStart => exact ⟨0, by omega, rfl⟩
    case round =>
      obtain ⟨k, hk, rfl⟩ := hrel
      by_cases h0 : k = 0
      · subst h0
        go_wp2
        go_round
        case rel => exact ⟨1, by omega, rfl⟩
        case measure => simp [intOf]
      obtain rfl : k = 1 := by omega
      go_wp2
      go_ret
      exact ⟨rfl, hW.out⟩
  · go_enter Try.func36, Try.ntmps36
    go_wp2_with (go_at_call 50; refine (coords_any _ _ _ _).mono ?_; rintro r w1 ⟨rfl, hb⟩; replace g2 := Lib.hid (blk_b hb g2.out); replace hW := Lib.hid (Buf.then_ hW.out hb); obtain ⟨b1, b2, b3, _, _, _⟩ := cells3 g2.out; clear hb)
    go_loop [9] (fun i => ∃ k : Nat, k ≤ 1 ∧ i = .int .i64 k) (fun i => (1 - intOf i).toNat)
    case atStart => exact ⟨0, by omega, rfl⟩
    case round =>
      obtain ⟨k, hk, rfl⟩ := hrel
      by_cases h0 : k = 0
      · subst h0
        go_wp2
        go_round
        case rel => exact ⟨1, by omega, rfl⟩
        case measure => simp [intOf]
      obtain rfl : k = 1 := by omega
      go_wp2
      go_ret
      exact ⟨rfl, hW.out⟩
  · go_enter Try.func36, Try.ntmps36
    go_wp2_with (go_at_call 50; refine (coords_any _ _ _ _).mono ?_; rintro r w1 ⟨rfl, hb⟩; replace g2 := Lib.hid (blk_b hb g2.out); replace hW := Lib.hid (Buf.then_ hW.out hb); obtain ⟨b1, b2, b3, _, _, _⟩ := cells3 g2.out; clear hb)
    go_loop [9] (fun i => ∃ k : Nat, k ≤ 2 ∧ i = .int .i64 k) (fun i => (2 - intOf i).toNat)
    case atStart => exact ⟨0, by omega, rfl⟩
    case round =>
      obtain ⟨k, hk, rfl⟩ := hrel
      by_cases h0 : k = 0
      · subst h0
        go_wp2
        go_round
        case rel => exact ⟨1, by omega, rfl⟩
        case measure => simp [intOf]
      by_cases h1 : k = 1
      · subst h1
        go_wp2
        go_round
        case rel => exact ⟨2, by omega, rfl⟩
        case measure => simp [intOf]
      obtain rfl : k = 2 := by omega
      go_wp2
      go_ret
      exact ⟨rfl, hW.out⟩
  · go_enter Try.func36, Try.ntmps36
    go_wp2_with (go_at_call 50; refine (coords_any _ _ _ _).mono ?_; rintro r w1 ⟨rfl, hb⟩; replace g2 := Lib.hid (blk_b hb g2.out); replace hW := Lib.hid (Buf.then_ hW.out hb); obtain ⟨b1, b2, b3, _, _, _⟩ := cells3 g2.out; clear hb)
    go_loop [9] (fun i => ∃ k : Nat, k ≤ 2 ∧ i = .int .i64 k) (fun i => (2 - intOf i).toNat)
    case atStart => exact ⟨0, by omega, rfl⟩
    case round =>
      obtain ⟨k, hk, rfl⟩ := hrel
      by_cases h0 : k = 0
      · subst h0
        go_wp2
        go_round
        case rel => exact ⟨1, by omega, rfl⟩
        case measure => simp [intOf]
      by_cases h1 : k = 1
      · subst h1
        go_wp2
        go_round
        case rel => exact ⟨2, by omega, rfl⟩
        case measure => simp [intOf]
      obtain rfl : k = 2 := by omega
      go_wp2
      go_ret
      exact ⟨rfl, hW.out⟩
theorem st3_b {B : Nat} {a w : World} {g : Nat} {x y z : Value} (hg : B ≤ g) (h : Below B a w) : Below B a (((w.setCell ⟨g, 0, none⟩ x).setCell ⟨g, 1, none⟩ y).setCell ⟨g, 2, none⟩ z) := st3_below h hg x y z
theorem bl_alloc {w w1 : World} {o : Obj} (h : Below w.heap.size w w1) : Below w.heap.size w (w1.alloc o) := Buf.then_ h (new_block o)
theorem st3_o {w : World} {g k : Nat} {x y z : Value} {o : Obj} (hk : k ≠ g) (h : w.heap[k]? = some o) : (((w.setCell ⟨g, 0, none⟩ x).setCell ⟨g, 1, none⟩ y).setCell ⟨g, 2, none⟩ z).heap[k]? = some o := (st3_other w hk x y z).trans h
theorem blk_newk (w : World) (o : Obj) {k : Nat} (h : w.heap.size = k) : (w.alloc o).heap[k]? = some o := by rw [← h]; exact blk_new w o
theorem blk_drew {w : World} {g : Nat} {o : Obj} (h : w.heap[g]? = some o) : w.drew.heap[g]? = some o := h
theorem valid_any (x y z : Int) (w : World) :
    Calls Try.prog 36 #[.agg #[.int .i64 x, .int .i64 y, .int .i64 z]] w fun e w' => e = .returned (.bool (pvB x y z)) ∧ Below w.heap.size w w' := by
  cases h : pvB x y z with
  | true => exact valid_yes x y z (pvB_yes h) w
  | false => exact valid_no x y z h w
/-- The squared distance. -/
def sq3 (a b c d e f : Int) : Int := (a - d) * (a - d) + (b - e) * (b - e) + (c - f) * (c - f)
theorem prod_bd {u m : Int} (h0 : -m ≤ u) (h1 : u ≤ m) : 0 ≤ u * u ∧ u * u ≤ m * m := by
  constructor
  · by_cases h : 0 ≤ u
    · exact Int.mul_nonneg h h
    · have := Int.mul_nonneg (show 0 ≤ -u by omega) (show 0 ≤ -u by omega); rwa [Int.neg_mul_neg] at this
  · by_cases h : 0 ≤ u
    · exact Int.mul_le_mul h1 h1 h (by omega)
    · have := Int.mul_le_mul (show -u ≤ m by omega) (show -u ≤ m by omega) (show 0 ≤ -u by omega) (by omega); rwa [Int.neg_mul_neg] at this
theorem sq_bd {u : Int} (h0 : -2097152 ≤ u) (h1 : u ≤ 2097152) : 0 ≤ u * u ∧ u * u ≤ 4398046511104 := by
  have := prod_bd h0 h1; omega
def sqAt (a b c d e f : Int) (k : Nat) : Int := match k with | 0 => 0 | 1 => (a - d) * (a - d) | 2 => (a - d) * (a - d) + (b - e) * (b - e) | _ => (a - d) * (a - d) + (b - e) * (b - e) + (c - f) * (c - f)
end Geo
end Go.Proofs.Ytklgnbimfobgkaa
