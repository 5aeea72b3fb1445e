/- Contracts of package travel, whatever the valid table: Validate, lower, upper. -/
import Derived.Test.YthjanffepglcfaaSrc
import Derived.Test.YthjanffepglcfaaRoot
import Derived.Lib.MinMax
namespace Go.Proofs.Ythjanffepglcfaa
open Go.RowKit
namespace Trav
theorem new_block {w : World} (o : Obj) : Below w.heap.size w (w.alloc o) := (Below.refl _ _).alloc (Nat.le_refl _) _
/-- A valid table in memory. -/
structure TV (W : World) (s : Int) (b1 b2 n : Nat) (lo hi : List Int) : Prop where
  l1 : Src.Ints W b1 lo
  l2 : Src.Ints W b2 hi
  n1 : lo.length = n
  n2 : hi.length = n
  n3 : 2 ≤ n
  n9 : n ≤ 256
  s1 : 1 ≤ s
  s9 : s ≤ 1048576
  val : ∀ k, k < n → 0 ≤ lo.getD k 0 ∧ lo.getD k 0 ≤ hi.getD k 0 ∧ hi.getD k 0 ≤ 1099511627776
  mono : ∀ i j, i ≤ j → j < n → lo.getD i 0 ≤ lo.getD j 0 ∧ hi.getD i 0 ≤ hi.getD j 0
  e1 : b1 < W.heap.size
  e2 : b2 < W.heap.size
theorem ints_kept {W w : World} {b : Nat} {xs : List Int} (h : Src.Ints W b xs) (hb : w.heap[b]? = W.heap[b]?) : Src.Ints w b xs := fun j hj =>
  (World.cell?_of_block (a := ⟨b, j, none⟩) hb).trans (h j hj)
theorem TV.below {W w : World} {s : Int} {b1 b2 n : Nat} {lo hi : List Int} (h : TV W s b1 b2 n lo hi) (hb : Below W.heap.size W w) : TV w s b1 b2 n lo hi :=
  ⟨ints_kept h.l1 (hb.block b1 h.e1), ints_kept h.l2 (hb.block b2 h.e2), h.n1, h.n2, h.n3, h.n9, h.s1, h.s9, h.val, h.mono, Nat.lt_of_lt_of_le h.e1 hb.size, Nat.lt_of_lt_of_le h.e2 hb.size⟩
theorem TV.at1 {W : World} {s : Int} {b1 b2 n : Nat} {lo hi : List Int} (h : TV W s b1 b2 n lo hi) (k : Nat) (hk : k < n) : W.cell? ⟨b1, k, none⟩ = some (.int .i64 (lo.getD k 0)) := h.l1 k (by rw [h.n1]; exact hk)
theorem TV.at2 {W : World} {s : Int} {b1 b2 n : Nat} {lo hi : List Int} (h : TV W s b1 b2 n lo hi) (k : Nat) (hk : k < n) : W.cell? ⟨b2, k, none⟩ = some (.int .i64 (hi.getD k 0)) := h.l2 k (by rw [h.n2]; exact hk)
theorem ks_bd {k s : Int} (k0 : 0 ≤ k) (k1 : k ≤ 256) (s1 : 1 ≤ s) (s9 : s ≤ 1048576) : 0 ≤ k * s ∧ k * s ≤ 268435456 :=
  ⟨Int.mul_nonneg k0 (by omega), Int.le_trans (Int.mul_le_mul k1 s9 (by omega) (by omega)) (by decide)⟩
theorem lowerF (k s dd : Int) (x y : Nat) (w : World) (k0 : 0 ≤ k) (k1 : k ≤ 256) (s1 : 1 ≤ s) (s9 : s ≤ 1048576) (c1 : w.cell? ⟨x, 0, none⟩ = some (.int .i64 s)) (c2 : w.cell? ⟨y, 0, none⟩ = some (.int .i64 dd)) :
    Calls Try.prog 79 #[.int .i64 k, .pointer (some ⟨x, 0, none⟩), .pointer (some ⟨y, 0, none⟩)] w fun e w' => e = .returned (.bool (decide (dd < k * s))) ∧ w' = w := by
  obtain ⟨p0, p1⟩ := ks_bd k0 k1 s1 s9
  go_enter Try.func79, Try.ntmps79
  go_wp2
  go_ret
  exact ⟨rfl, rfl⟩
theorem upperF (k s dd : Int) (x y : Nat) (w : World) (k0 : 0 ≤ k) (k1 : k ≤ 256) (s1 : 1 ≤ s) (s9 : s ≤ 1048576) (c1 : w.cell? ⟨x, 0, none⟩ = some (.int .i64 s)) (c2 : w.cell? ⟨y, 0, none⟩ = some (.int .i64 dd)) :
    Calls Try.prog 80 #[.int .i64 k, .pointer (some ⟨x, 0, none⟩), .pointer (some ⟨y, 0, none⟩)] w fun e w' => e = .returned (.bool (decide (dd ≤ k * s))) ∧ w' = w := by
  obtain ⟨p0, p1⟩ := ks_bd k0 k1 s1 s9
  go_enter Try.func80, Try.ntmps80
  go_wp2
  go_ret
  exact ⟨rfl, rfl⟩
/-- A binary search for the number r with a function that says from r on true. -/
theorem searchL (n r : Nat) (x y : Addr) (w : World) (hr : r ≤ n) (hn : n ≤ 256)
    (H : Hid (∀ k : Nat, k < n → Calls Try.prog 79 #[.int .i64 k, .pointer (some x), .pointer (some y)] w fun e w' => e = .returned (.bool (decide (r ≤ k))) ∧ w' = w)) :
    Calls Try.prog 78 #[.int .i64 n, .func (.func 79) #[] #[.pointer (some x), .pointer (some y)]] w fun e w' => e = .returned (.int .i64 r) ∧ w' = w := by
  go_enter Try.func78, Try.ntmps78
  go_wp2_with fail
  go_loop [5, 6] (fun i j => ∃ a b : Nat, i = .int .i64 a ∧ j = .int .i64 b ∧ a ≤ r ∧ r ≤ b ∧ b ≤ n) (fun i j => (intOf j - intOf i).toNat)
  case atStart => exact ⟨0, n, rfl, rfl, by omega, hr, by omega⟩
  case round =>
    obtain ⟨a, b, rfl, rfl, h1, h2, h3⟩ := hrel
    by_cases hlt : a < b
    · have e2 : Hid (((a : Int) + b) / 2 = (((a + b) / 2 : Nat) : Int)) := Lib.hid (by omega)
      have hm := H.out ((a + b) / 2) (by omega)
      by_cases hq : r ≤ (a + b) / 2
      · rw [decide_eq_true hq] at hm
        replace hm := Lib.hid hm
        go_wp2_with fail
        have hm' := hm.out
        rw [← e2.out] at hm'
        refine hm'.mono ?_
        clear hm'
        rintro e w' ⟨rfl, rfl⟩
        go_wp2
        go_round
        case rel => exact ⟨a, (a + b) / 2, rfl, by simp only [e2.out], h1, hq, by omega⟩
        case measure => simp [intOf]; omega
      · rw [decide_eq_false hq] at hm
        replace hm := Lib.hid hm
        go_wp2_with fail
        have hm' := hm.out
        rw [← e2.out] at hm'
        refine hm'.mono ?_
        clear hm'
        rintro e w' ⟨rfl, rfl⟩
        go_wp2
        go_round
        case rel => exact ⟨(a + b) / 2 + 1, b, congrArg (Value.int .i64) (by omega), rfl, by omega, h2, h3⟩
        case measure => simp [intOf]; omega
    · obtain rfl : a = b := by omega
      obtain rfl : a = r := by omega
      go_wp2
      go_ret
      exact ⟨rfl, rfl⟩
/-- A binary search for the number r with a function that says from r on true. -/
theorem searchU (n r : Nat) (x y : Addr) (w : World) (hr : r ≤ n) (hn : n ≤ 256)
    (H : Hid (∀ k : Nat, k < n → Calls Try.prog 80 #[.int .i64 k, .pointer (some x), .pointer (some y)] w fun e w' => e = .returned (.bool (decide (r ≤ k))) ∧ w' = w)) :
    Calls Try.prog 78 #[.int .i64 n, .func (.func 80) #[] #[.pointer (some x), .pointer (some y)]] w fun e w' => e = .returned (.int .i64 r) ∧ w' = w := by
  go_enter Try.func78, Try.ntmps78
  go_wp2_with fail
  go_loop [5, 6] (fun i j => ∃ a b : Nat, i = .int .i64 a ∧ j = .int .i64 b ∧ a ≤ r ∧ r ≤ b ∧ b ≤ n) (fun i j => (intOf j - intOf i).toNat)
  case atStart => exact ⟨0, n, rfl, rfl, by omega, hr, by omega⟩
  case round =>
    obtain ⟨a, b, rfl, rfl, h1, h2, h3⟩ := hrel
    by_cases hlt : a < b
    · have e2 : Hid (((a : Int) + b) / 2 = (((a + b) / 2 : Nat) : Int)) := Lib.hid (by omega)
      have hm := H.out ((a + b) / 2) (by omega)
      by_cases hq : r ≤ (a + b) / 2
      · rw [decide_eq_true hq] at hm
        replace hm := Lib.hid hm
        go_wp2_with fail
        have hm' := hm.out
        rw [← e2.out] at hm'
        refine hm'.mono ?_
        clear hm'
        rintro e w' ⟨rfl, rfl⟩
        go_wp2
        go_round
        case rel => exact ⟨a, (a + b) / 2, rfl, by simp only [e2.out], h1, hq, by omega⟩
        case measure => simp [intOf]; omega
      · rw [decide_eq_false hq] at hm
        replace hm := Lib.hid hm
        go_wp2_with fail
        have hm' := hm.out
        rw [← e2.out] at hm'
        refine hm'.mono ?_
        clear hm'
        rintro e w' ⟨rfl, rfl⟩
        go_wp2
        go_round
        case rel => exact ⟨(a + b) / 2 + 1, b, congrArg (Value.int .i64) (by omega), rfl, by omega, h2, h3⟩
        case measure => simp [intOf]; omega
    · obtain rfl : a = b := by omega
      obtain rfl : a = r := by omega
      go_wp2
      go_ret
      exact ⟨rfl, rfl⟩
end Trav
end Go.Proofs.Ythjanffepglcfaa
