/- Contracts: sort.Search with secondOf's functions, secondOf, FromCivil. -/
import Derived.Test.YtnoggdhljijhpaaUtcD
set_option linter.unusedVariables false
set_option linter.unusedSimpArgs false
namespace Go.Proofs.Ytnoggdhljijhpaa
open Go.RowKit
namespace Utc
set_option maxHeartbeats 1000000 in
theorem close1 (k : Nat) (m : Int) (x y : Nat) (w : World) {a : Option Addr} {n c : Nat} {L : List Int} (h : Ro w a n c L) (hk : k < n) (h64 : n ≤ 64) (hy : -100 ≤ L.getD k 0 ∧ L.getD k 0 ≤ 9007199254) (c1 : w.cell? ⟨x, 0, none⟩ = some (.slice a n c)) (c2 : w.cell? ⟨y, 0, none⟩ = some (.int .i64 m)) :
    Calls Try.prog 42 #[.int .i64 k, .pointer (some ⟨x, 0, none⟩), .pointer (some ⟨y, 0, none⟩)] w fun e w' => e = .returned (.bool (decide (m ≤ L.getD k 0 - k))) ∧ ∃ q, w' = w.drewN q := by
  obtain ⟨g, o, rfl⟩ := h.form (by omega)
  have ck := h.cell k hk
  have hnc := h.nc
  have hcap := h.cap
  have hkn : (k : Int) < n := by omega
  have wk : IntKind.i64.wrap (k : Int) = k := IntWalk.i64_in _ (by omega)
  obtain ⟨y0, y9⟩ := hy
  generalize L.getD k 0 = v at *
  have wv : IntKind.i64.wrap (v - k) = v - k := IntWalk.i64_in _ (by omega)
  clear h
  go_enter Try.func42, Try.ntmps42
  go_wp2_with fail
  go_quiet (fail)
  go_wp2_with fail
  go_ret
  exact ⟨rfl, _, rfl⟩
/-- A binary search for the number r with a function that says from r on true. -/
theorem search1 (n r : Nat) (x y : Addr) (w : World) (hr : r ≤ n) (hn : n ≤ 256)
    (H : Hid (∀ (k : Nat) (q : Nat), k < n → Calls Try.prog 42 #[.int .i64 k, .pointer (some x), .pointer (some y)] (w.drewN q) fun e w' => e = .returned (.bool (decide (r ≤ k))) ∧ ∃ q', w' = (w.drewN q).drewN q')) :
    Calls Try.prog 41 #[.int .i64 n, .func (.func 42) #[] #[.pointer (some x), .pointer (some y)]] w fun e w' => e = .returned (.int .i64 r) ∧ ∃ q, w' = w.drewN q := by
  go_enter Try.func41, Try.ntmps41
  go_wp2_with fail
  go_loopw [5, 6] (fun i j wr => ∃ a b q : Nat, i = .int .i64 a ∧ j = .int .i64 b ∧ a ≤ r ∧ r ≤ b ∧ b ≤ n ∧ wr = w.drewN q) (fun i j _ => (intOf j - intOf i).toNat)
  case atStart => exact ⟨0, n, 0, rfl, rfl, by omega, hr, by omega, rfl⟩
  case round =>
    obtain ⟨a, b, q, rfl, rfl, h1, h2, h3, rfl⟩ := hrel
    by_cases hlt : a < b
    · have e2 : Hid (((a : Int) + b) / 2 = (((a + b) / 2 : Nat) : Int)) := Lib.hid (by omega)
      have hm := H.out ((a + b) / 2) q (by omega)
      by_cases hq : r ≤ (a + b) / 2
      · rw [decide_eq_true hq] at hm
        replace hm := Lib.hid hm
        go_wp2_with fail
        have hm' := hm.out
        rw [← e2.out] at hm'
        refine hm'.mono ?_
        clear hm'
        rintro e w' ⟨rfl, q', rfl⟩
        have he := Lib.hid (World.drewN_drewN w q q')
        go_wp2
        go_roundw
        case rel => exact ⟨a, (a + b) / 2, q + q', rfl, by simp only [e2.out], h1, hq, by omega, by first | rfl | exact he.out⟩
        case measure => simp [intOf]; omega
      · rw [decide_eq_false hq] at hm
        replace hm := Lib.hid hm
        go_wp2_with fail
        have hm' := hm.out
        rw [← e2.out] at hm'
        refine hm'.mono ?_
        clear hm'
        rintro e w' ⟨rfl, q', rfl⟩
        have he := Lib.hid (World.drewN_drewN w q q')
        go_wp2
        go_roundw
        case rel => exact ⟨(a + b) / 2 + 1, b, q + q', congrArg (Value.int .i64) (by omega), rfl, by omega, h2, h3, by first | rfl | exact he.out⟩
        case measure => simp [intOf]; omega
    · obtain rfl : a = b := by omega
      obtain rfl : a = r := by omega
      go_wp2
      go_ret
      exact ⟨rfl, _, rfl⟩
set_option maxHeartbeats 1000000 in
theorem close2 (k : Nat) (m : Int) (x y : Nat) (w : World) {a : Option Addr} {n c : Nat} {L : List Int} (h : Ro w a n c L) (hk : k < n) (h64 : n ≤ 64) (hy : -100 ≤ L.getD k 0 ∧ L.getD k 0 ≤ 9007199254) (c1 : w.cell? ⟨x, 0, none⟩ = some (.slice a n c)) (c2 : w.cell? ⟨y, 0, none⟩ = some (.int .i64 m)) :
    Calls Try.prog 43 #[.int .i64 k, .pointer (some ⟨x, 0, none⟩), .pointer (some ⟨y, 0, none⟩)] w fun e w' => e = .returned (.bool (decide (m < L.getD k 0 - k))) ∧ ∃ q, w' = w.drewN q := by
  obtain ⟨g, o, rfl⟩ := h.form (by omega)
  have ck := h.cell k hk
  have hnc := h.nc
  have hcap := h.cap
  have hkn : (k : Int) < n := by omega
  have wk : IntKind.i64.wrap (k : Int) = k := IntWalk.i64_in _ (by omega)
  obtain ⟨y0, y9⟩ := hy
  generalize L.getD k 0 = v at *
  have wv : IntKind.i64.wrap (v - k) = v - k := IntWalk.i64_in _ (by omega)
  clear h
  go_enter Try.func43, Try.ntmps43
  go_wp2_with fail
  go_quiet (fail)
  go_wp2_with fail
  go_ret
  exact ⟨rfl, _, rfl⟩
/-- A binary search for the number r with a function that says from r on true. -/
theorem search2 (n r : Nat) (x y : Addr) (w : World) (hr : r ≤ n) (hn : n ≤ 256)
    (H : Hid (∀ (k : Nat) (q : Nat), k < n → Calls Try.prog 43 #[.int .i64 k, .pointer (some x), .pointer (some y)] (w.drewN q) fun e w' => e = .returned (.bool (decide (r ≤ k))) ∧ ∃ q', w' = (w.drewN q).drewN q')) :
    Calls Try.prog 41 #[.int .i64 n, .func (.func 43) #[] #[.pointer (some x), .pointer (some y)]] w fun e w' => e = .returned (.int .i64 r) ∧ ∃ q, w' = w.drewN q := by
  go_enter Try.func41, Try.ntmps41
  go_wp2_with fail
  go_loopw [5, 6] (fun i j wr => ∃ a b q : Nat, i = .int .i64 a ∧ j = .int .i64 b ∧ a ≤ r ∧ r ≤ b ∧ b ≤ n ∧ wr = w.drewN q) (fun i j _ => (intOf j - intOf i).toNat)
  case atStart => exact ⟨0, n, 0, rfl, rfl, by omega, hr, by omega, rfl⟩
  case round =>
    obtain ⟨a, b, q, rfl, rfl, h1, h2, h3, rfl⟩ := hrel
    by_cases hlt : a < b
    · have e2 : Hid (((a : Int) + b) / 2 = (((a + b) / 2 : Nat) : Int)) := Lib.hid (by omega)
      have hm := H.out ((a + b) / 2) q (by omega)
      by_cases hq : r ≤ (a + b) / 2
      · rw [decide_eq_true hq] at hm
        replace hm := Lib.hid hm
        go_wp2_with fail
        have hm' := hm.out
        rw [← e2.out] at hm'
        refine hm'.mono ?_
        clear hm'
        rintro e w' ⟨rfl, q', rfl⟩
        have he := Lib.hid (World.drewN_drewN w q q')
        go_wp2
        go_roundw
        case rel => exact ⟨a, (a + b) / 2, q + q', rfl, by simp only [e2.out], h1, hq, by omega, by first | rfl | exact he.out⟩
        case measure => simp [intOf]; omega
      · rw [decide_eq_false hq] at hm
        replace hm := Lib.hid hm
        go_wp2_with fail
        have hm' := hm.out
        rw [← e2.out] at hm'
        refine hm'.mono ?_
        clear hm'
        rintro e w' ⟨rfl, q', rfl⟩
        have he := Lib.hid (World.drewN_drewN w q q')
        go_wp2
        go_roundw
        case rel => exact ⟨(a + b) / 2 + 1, b, q + q', congrArg (Value.int .i64) (by omega), rfl, by omega, h2, h3, by first | rfl | exact he.out⟩
        case measure => simp [intOf]; omega
    · obtain rfl : a = b := by omega
      obtain rfl : a = r := by omega
      go_wp2
      go_ret
      exact ⟨rfl, _, rfl⟩
set_option maxHeartbeats 4000000 in
theorem secondOf_60 {w : World} {a : Option Addr} {n c : Nat} {L : List Int} (h : Ro w a n c L) (hv : VT L) (day Y M D U : Int) (d0 : 0 ≤ day) (d9 : day ≤ 120894) (r : Nat) (hr : r < n) (hm : L.getD r 0 - r = (day + 1) * 86400) :
    Calls Try.prog 35 #[.slice a n c, .int .i64 day, .agg #[.int .i64 Y, .int .i64 M, .int .i64 D, .int .i64 23, .int .i64 59, .int .i64 60, .int .i64 U]] w fun e w' => e = .returned (.tuple #[.int .i64 (L.getD r 0), .bool true]) ∧ Below w.heap.size w w' := by
  have hnc := h.nc
  have hcap := h.cap
  have hl := h.len
  have h64 : n ≤ 64 := by have := hv.len; omega
  obtain ⟨g, o, rfl⟩ := h.form (by omega)
  have CK := Lib.hid fun wx (hb : Below w.heap.size w wx) => (h.below hb).cell r hr
  have bd : ∀ k, k < n → -100 ≤ L.getD k 0 ∧ L.getD k 0 ≤ 9007199254 := fun k hk => by have := hv.val k (by omega); omega
  have dec : ∀ k, k < n → decide ((day + 1) * 86400 ≤ L.getD k 0 - k) = decide (r ≤ k) := fun k hk => by
    by_cases hrk : r ≤ k
    · have := hv.le hrk (by omega)
      rw [decide_eq_true hrk, decide_eq_true (by omega)]
    · have := hv.asc k r (by omega) (by omega)
      rw [decide_eq_false hrk, decide_eq_false (by omega)]
  obtain ⟨m, hm'⟩ : ∃ m, (day + 1) * 86400 = m := ⟨_, rfl⟩
  rw [hm'] at hm dec
  have m0 : 0 ≤ m := by omega
  have m9 : m ≤ 12000000000 := by omega
  have SR : Hid (∀ wx x y, Below w.heap.size w wx → wx.cell? ⟨x, 0, none⟩ = some (.slice (some ⟨g, o, none⟩) n c) → wx.cell? ⟨y, 0, none⟩ = some (.int .i64 m) → Calls Try.prog 41 #[.int .i64 n, .func (.func 42) #[] #[.pointer (some ⟨x, 0, none⟩), .pointer (some ⟨y, 0, none⟩)]] wx fun e w' => e = .returned (.int .i64 r) ∧ ∃ q, w' = wx.drewN q) := Lib.hid fun wx x y hb c1 c2 =>
    search1 n r ⟨x, 0, none⟩ ⟨y, 0, none⟩ wx (by omega) (by omega) (Lib.hid fun k q hk => by
      have C := close1 k m x y (wx.drewN q) ((h.below hb).drewN q) hk h64 (bd k hk) c1 c2
      rw [dec k hk] at C
      exact C)
  have p0 := Lib.hid (heap_alloc_new w (.cells #[.slice (some ⟨g, o, none⟩) n c] 28))
  replace hl := Lib.hid hl
  have hrn : (r : Int) < n := by omega
  have wr : IntKind.i64.wrap (r : Int) = r := IntWalk.i64_in _ (by omega)
  obtain ⟨v0, v9⟩ := bd r hr
  generalize L.getD r 0 = v at *
  have wv : IntKind.i64.wrap (v - r) = v - r := IntWalk.i64_in _ (by omega)
  clear h hv bd dec
  go_enter Try.func35, Try.ntmps35
  go_wp2_with fail
  obtain ⟨w3, hw3⟩ : ∃ w3, w3 = (((w.alloc (.cells #[.slice (some ⟨g, o, none⟩) n c] 28)).alloc (.cells #[.int .i64 Y, .int .i64 M, .int .i64 D, .int .i64 23, .int .i64 59, .int .i64 60, .int .i64 U] 39)).alloc (.cells #[.int .i64 m] 3)) := ⟨_, rfl⟩
  rw [← hw3]
  have B3 := Lib.hid (show Below w.heap.size w w3 by rw [hw3]; exact (((Dice.new_block _).alloc (by simp) _).alloc (by simp; omega) _))
  have q1 : w3.heap[w.heap.size]? = some (.cells #[.slice (some ⟨g, o, none⟩) n c] 28 (0, 0)) := by
    rw [hw3]; exact (heap_alloc_old _ _ (by simp; omega)).trans ((heap_alloc_old _ _ (by simp)).trans p0.out)
  have q3 : w3.heap[w.heap.size + 1 + 1]? = some (.cells #[.int .i64 m] 3 (0, 0)) := by
    have e : ((w.alloc (.cells #[.slice (some ⟨g, o, none⟩) n c] 28)).alloc (.cells #[.int .i64 Y, .int .i64 M, .int .i64 D, .int .i64 23, .int .i64 59, .int .i64 60, .int .i64 U] 39)).heap.size = w.heap.size + 1 + 1 := by simp
    rw [hw3, ← e]; exact heap_alloc_new _ _
  have x1 := cell_of_row w3 _ 0 _ _ _ q1
  have x3 := cell_of_row w3 _ 0 _ _ _ q3
  simp only [List.getElem?_toArray, List.getElem?_cons_zero] at x1 x3
  have ck := CK.out _ B3.out
  replace hw3 := Lib.hid hw3
  have hs := SR.out w3 _ _ B3.out x1 x3
  clear q1 q3 SR p0 CK
  refine hs.mono ?_
  clear hs
  rintro e w4 ⟨rfl, q, rfl⟩
  have hne : ((r : Int) == (n : Int)) = false := by simp; omega
  go_wp2_with fail
  go_quiet (fail)
  go_wp2_with fail
  go_ret2
  exact ⟨rfl, Buf.below_drewN B3.out _⟩
set_option maxHeartbeats 4000000 in
theorem secondOf_n {w : World} {a : Option Addr} {n c : Nat} {L : List Int} (h : Ro w a n c L) (hv : VT L) (day Y M D H N S U : Int) (d0 : 0 ≤ day) (d9 : day ≤ 120894) (H0 : 0 ≤ H) (H9 : H ≤ 23) (N0 : 0 ≤ N) (N9 : N ≤ 59) (S0 : 0 ≤ S) (S9 : S ≤ 59) (r : Nat) (hr : r ≤ n) (m : Int) (hm : day * 86400 + H * 3600 + N * 60 + S = m) (h1 : ∀ k, k < r → L.getD k 0 - k ≤ m) (h2 : ∀ k, r ≤ k → k < n → m < L.getD k 0 - k) :
    Calls Try.prog 35 #[.slice a n c, .int .i64 day, .agg #[.int .i64 Y, .int .i64 M, .int .i64 D, .int .i64 H, .int .i64 N, .int .i64 S, .int .i64 U]] w fun e w' => e = .returned (.tuple #[.int .i64 (m + r), .bool true]) ∧ Below w.heap.size w w' := by
  have hnc := h.nc
  have hcap := h.cap
  have hl := h.len
  have h64 : n ≤ 64 := by have := hv.len; omega
  have bd : ∀ k, k < n → -100 ≤ L.getD k 0 ∧ L.getD k 0 ≤ 9007199254 := fun k hk => by have := hv.val k (by omega); omega
  have dec : ∀ k, k < n → decide (m < L.getD k 0 - k) = decide (r ≤ k) := fun k hk => by
    by_cases hrk : r ≤ k
    · have := h2 k hrk hk
      rw [decide_eq_true hrk, decide_eq_true (by omega)]
    · have := h1 k (by omega)
      rw [decide_eq_false hrk, decide_eq_false (by omega)]
  have m0 : 0 ≤ m := by omega
  have m9 : m ≤ 12000000000 := by omega
  have SR : Hid (∀ wx x y, Below w.heap.size w wx → wx.cell? ⟨x, 0, none⟩ = some (.slice a n c) → wx.cell? ⟨y, 0, none⟩ = some (.int .i64 m) → Calls Try.prog 41 #[.int .i64 n, .func (.func 43) #[] #[.pointer (some ⟨x, 0, none⟩), .pointer (some ⟨y, 0, none⟩)]] wx fun e w' => e = .returned (.int .i64 r) ∧ ∃ q, w' = wx.drewN q) := Lib.hid fun wx x y hb c1 c2 =>
    search2 n r ⟨x, 0, none⟩ ⟨y, 0, none⟩ wx (by omega) (by omega) (Lib.hid fun k q hk => by
      have C := close2 k m x y (wx.drewN q) ((h.below hb).drewN q) hk h64 (bd k hk) c1 c2
      rw [dec k hk] at C
      exact C)
  have p0 := Lib.hid (heap_alloc_new w (.cells #[.slice a n c] 28))
  have sne : (S == 60) = false := by simp; omega
  have rm : (r : Int) ≤ 64 := by omega
  clear h hv bd dec hl h1 h2
  go_enter Try.func35, Try.ntmps35
  go_wp2_with fail
  obtain ⟨w3, hw3⟩ : ∃ w3, w3 = (((w.alloc (.cells #[.slice a n c] 28)).alloc (.cells #[.int .i64 Y, .int .i64 M, .int .i64 D, .int .i64 H, .int .i64 N, .int .i64 S, .int .i64 U] 39)).alloc (.cells #[.int .i64 m] 3)) := ⟨_, rfl⟩
  rw [← hw3]
  have B3 := Lib.hid (show Below w.heap.size w w3 by rw [hw3]; exact (((Dice.new_block _).alloc (by simp) _).alloc (by simp; omega) _))
  have q1 : w3.heap[w.heap.size]? = some (.cells #[.slice a n c] 28 (0, 0)) := by
    rw [hw3]; exact (heap_alloc_old _ _ (by simp; omega)).trans ((heap_alloc_old _ _ (by simp)).trans p0.out)
  have q3 : w3.heap[w.heap.size + 1 + 1]? = some (.cells #[.int .i64 m] 3 (0, 0)) := by
    have e : ((w.alloc (.cells #[.slice a n c] 28)).alloc (.cells #[.int .i64 Y, .int .i64 M, .int .i64 D, .int .i64 H, .int .i64 N, .int .i64 S, .int .i64 U] 39)).heap.size = w.heap.size + 1 + 1 := by simp
    rw [hw3, ← e]; exact heap_alloc_new _ _
  have x1 := cell_of_row w3 _ 0 _ _ _ q1
  have x3 := cell_of_row w3 _ 0 _ _ _ q3
  simp only [List.getElem?_toArray, List.getElem?_cons_zero] at x1 x3
  replace hw3 := Lib.hid hw3
  have hs := SR.out w3 _ _ B3.out x1 x3
  clear q1 q3 SR p0
  refine hs.mono ?_
  clear hs
  rintro e w4 ⟨rfl, q, rfl⟩
  go_wp2_with fail
  go_ret2
  exact ⟨rfl, Buf.below_drewN B3.out _⟩
end Utc
end Go.Proofs.Ytnoggdhljijhpaa
