/- The contract of All. -/
import Derived.Test.YtmjfafphfkadgaaGeoR
import Derived.Test.YtmjfafphfkadgaaRow3
namespace Go.Proofs.Ytmjfafphfkadgaa
open Go.RowKit
namespace Geo
theorem info3 : (Try.prog.info? 29).map (fun i => (i.zero, i.size, i.bytes)) = some (some (.agg #[.int .i64 0, .int .i64 0, .int .i64 0]), 3, 24) := by kernel_rfl
theorem len_bd {a b c x y : Int} {Y Z k m q : Nat} (hk : k ≤ 100) (hY : Y ≤ 100) (hZ : Z ≤ 100) (hm : m ≤ 100) (hq : q ≤ 100) : (Fs a b c Y Z k ++ Gs x b c Z m ++ Hs x y c q).length ≤ 1020100 := by
  rw [List.length_append, List.length_append, Fs_length, Gs_length, Hs_length]
  have h1 : Y * Z ≤ 100 * 100 := Nat.mul_le_mul hY hZ
  have h2 : k * (Y * Z) ≤ 100 * (100 * 100) := Nat.mul_le_mul hk h1
  have h3 : m * Z ≤ 100 * 100 := Nat.mul_le_mul hm hZ
  omega
/-- What All returns. -/
def AllSaid (W : World) (l : List (Int × Int × Int)) (r : Ending) (w' : World) : Prop := ∃ v, r = .returned v ∧ w'.ownsRow (W.heap.size + 1) 29 3 v l.length (Row3.cells l)
theorem int_eq {x y : Int} (h : x = y) : Value.int .i64 x = Value.int .i64 y := by rw [h]
set_option maxHeartbeats 4000000 in
theorem all_any (a b c d e f : Int) (X Y Z : Nat) (hX : (X : Int) = d - a + 1) (hY : (Y : Int) = e - b + 1) (hZ : (Z : Int) = f - c + 1) (h : BV a b c d e f) (X9 : X ≤ 100) (Y9 : Y ≤ 100) (Z9 : Z ≤ 100) (w : World) :
    Calls Try.prog 22 #[.agg #[.int .i64 a, .int .i64 b, .int .i64 c, .int .i64 d, .int .i64 e, .int .i64 f]] w fun r w' => AllSaid w (Fs a b c Y Z X) r w' ∧ Below w.heap.size w w' := by
  obtain ⟨i0, hi, hz0, hz1, hz2⟩ := info_parts info3
  obtain ⟨⟨ax0, ax1, ay0, ay1, az0, az1⟩, ⟨dx0, dx1, dy0, dy1, dz0, dz1⟩, hx, hy, hz⟩ := h
  have HI := Lib.hid hi
  have HZ0 := Lib.hid hz0
  have HZ1 := Lib.hid hz1
  have HZ2 := Lib.hid hz2
  have X0 : (X : Int) ≤ d - a + 1 := by omega
  have X1 : d - a + 1 ≤ (X : Int) := by omega
  have Y0 : (Y : Int) ≤ e - b + 1 := by omega
  have Y1 : e - b + 1 ≤ (Y : Int) := by omega
  have Z0 : (Z : Int) ≤ f - c + 1 := by omega
  have Z1 : f - c + 1 ≤ (Z : Int) := by omega
  clear hi hz0 hz1 hz2 hX hY hZ
  have p1 := Lib.hid (blk_new w (.cells #[.int .i64 a, .int .i64 b, .int .i64 c, .int .i64 d, .int .i64 e, .int .i64 f] 31))
  have hW : Hid (Below w.heap.size w (w.alloc (.cells #[.int .i64 a, .int .i64 b, .int .i64 c, .int .i64 d, .int .i64 e, .int .i64 f] 31))) := Lib.hid (new_block _)
  have own0 : Hid ((w.alloc (.cells #[.int .i64 a, .int .i64 b, .int .i64 c, .int .i64 d, .int .i64 e, .int .i64 f] 31)).ownsRow (w.heap.size + 1) 29 3 (.slice none 0 0) (Fs a b c Y Z 0).length (Row3.cells (Fs a b c Y Z 0))) := Lib.hid (World.ownsRow_nil _ _ _ _)
  go_enter Try.func22, Try.ntmps22
  go_wp2
  go_loopw [3, 4] (fun v i wr => ∃ k : Nat, k ≤ X ∧ i = .int .i64 (a + k) ∧ Hid (wr.ownsRow (w.heap.size + 1) 29 3 v (Fs a b c Y Z k).length (Row3.cells (Fs a b c Y Z k))) ∧ Hid (wr.heap[w.heap.size]? = some (.cells #[.int .i64 a, .int .i64 b, .int .i64 c, .int .i64 d, .int .i64 e, .int .i64 f] 31 (0, 0))) ∧ Hid (Below w.heap.size w wr)) (fun _ i _ => (a + X - intOf i).toNat)
  case atStart => exact ⟨0, by omega, int_eq (by omega), own0, p1, hW⟩
  case round =>
    clear own0 p1 hW
    obtain ⟨k, hk, rfl, own1, p1, hW⟩ := hrel
    obtain ⟨c1, c2, c3, c4, c5, c6⟩ := cells6 p1.out
    by_cases hlt : k < X
    · have t1 : a + (k : Int) ≤ d := by omega
      go_wp2
      obtain ⟨wo, rfl⟩ : ∃ wo, wo = wr := ⟨_, rfl⟩
      go_loopw [3, 5] (fun v j wr => ∃ m : Nat, m ≤ Y ∧ j = .int .i64 (b + m) ∧ Hid (wr.ownsRow (w.heap.size + 1) 29 3 v (Fs a b c Y Z k ++ Gs (a + k) b c Z m).length (Row3.cells (Fs a b c Y Z k ++ Gs (a + k) b c Z m))) ∧ Hid (wr.heap[w.heap.size]? = some (.cells #[.int .i64 a, .int .i64 b, .int .i64 c, .int .i64 d, .int .i64 e, .int .i64 f] 31 (0, 0))) ∧ Hid (Below w.heap.size w wr)) (fun _ j _ => (b + Y - intOf j).toNat)
      case atStart => exact ⟨0, by omega, int_eq (by omega), by simpa [Gs] using own1, p1, hW⟩
      case round =>
        clear own1 p1 hW c1 c2 c3 c4 c5 c6
        obtain ⟨m, hm, rfl, own2, p1, hW⟩ := hrel
        obtain ⟨c1, c2, c3, c4, c5, c6⟩ := cells6 p1.out
        by_cases hlt2 : m < Y
        · have t2 : b + (m : Int) ≤ e := by omega
          go_wp2
          obtain ⟨wp, rfl⟩ : ∃ wp, wp = wr := ⟨_, rfl⟩
          go_loopw [3, 6] (fun v j wr => ∃ q : Nat, q ≤ Z ∧ j = .int .i64 (c + q) ∧ Hid (wr.ownsRow (w.heap.size + 1) 29 3 v (Fs a b c Y Z k ++ Gs (a + k) b c Z m ++ Hs (a + k) (b + m) c q).length (Row3.cells (Fs a b c Y Z k ++ Gs (a + k) b c Z m ++ Hs (a + k) (b + m) c q))) ∧ Hid (wr.heap[w.heap.size]? = some (.cells #[.int .i64 a, .int .i64 b, .int .i64 c, .int .i64 d, .int .i64 e, .int .i64 f] 31 (0, 0))) ∧ Hid (Below w.heap.size w wr)) (fun _ j _ => (c + Z - intOf j).toNat)
          case atStart => exact ⟨0, by omega, int_eq (by omega), by simpa [Hs] using own2, p1, hW⟩
          case round =>
            clear own2 p1 hW c1 c2 c3 c4 c5 c6
            obtain ⟨q, hq, rfl, own3, p1, hW⟩ := hrel
            obtain ⟨c1, c2, c3, c4, c5, c6⟩ := cells6 p1.out
            by_cases hlt3 : q < Z
            · have t3 : c + (q : Int) ≤ f := by omega
              have hlen := len_bd (a := a) (b := b) (c := c) (x := a + k) (y := b + m) (k := k) (m := m) (q := q) (by omega) Y9 Z9 (by omega) (by omega)
              have hsz : w.heap.size + 1 ≤ wr.heap.size := (Array.getElem?_eq_some_iff.1 p1.out).1
              go_wp2_with (at_builtin; refine Row3.append3 rfl _ _ 52 rfl (w.heap.size + 1) 29 _ i0 _ 24 Try.underlying52 HI.out HZ0.out HZ1.out HZ2.out rfl rfl own3.out hsz _ _ _ rfl rfl rfl rfl (by unfold maxLen; omega) (by omega) ?_; intro v' w' hown' hg)
              obtain ⟨r1, r2⟩ := Row3.keep3 own3.out p1.out hW.out hg
              go_roundw
              case rel => exact ⟨q + 1, by omega, int_eq (by omega), Lib.hid (by rw [Hs_succ, ← List.append_assoc, Row3.cells_snoc, List.length_append]; exact hown'), Lib.hid r1, Lib.hid r2⟩
              case measure => simp [intOf]; omega
            · obtain rfl : q = Z := by omega
              have t3 : f < c + (q : Int) := by omega
              go_wp2
              go_roundw
              case rel => exact ⟨m + 1, by omega, int_eq (by omega), Lib.hid (by rw [Gs_succ, ← List.append_assoc]; exact own3.out), p1, hW⟩
              case measure => simp [intOf]; omega
        · obtain rfl : m = Y := by omega
          have t2 : e < b + (m : Int) := by omega
          go_wp2
          go_roundw
          case rel => exact ⟨k + 1, by omega, int_eq (by omega), Lib.hid (by rw [Fs_succ]; exact own2.out), p1, hW⟩
          case measure => simp [intOf]; omega
    · obtain rfl : k = X := by omega
      have t1 : d < a + (k : Int) := by omega
      go_wp2
      go_ret
      exact ⟨⟨_, rfl, own1.out⟩, hW.out⟩
end Geo
end Go.Proofs.Ytmjfafphfkadgaa
