/- TravAC: texts joined. -/
import Derived.Test.YtldgihlhioeipaaSrc
import Derived.Test.YtldgihlhioeipaaRoot
import Derived.Lib.MinMax
/- Contracts of package travel, whatever the valid table: Validate, lower, upper. -/
namespace Go.Proofs.Ytldgihlhioeipaa
open Go.RowKit
namespace Trav
theorem new_block {w : World} (o : Obj) : Below w.heap.size w (w.alloc o) := (Below.refl _ _).alloc (Nat.le_refl _) _
/-- A valid table in memory. -/
structure TV (W : World) (s : Int) (b1 b2 n : Nat) (lo hi : List Int) : Prop where
  l1 : Src.Ints W b1 lo
  l2 : Src.Ints W b2 hi
  n1 : lo.length = n
  n2 : hi.length = n
  n3 : 2 ≤ n
  n9 : n ≤ 256
  s1 : 1 ≤ s
  s9 : s ≤ 1048576
  val : ∀ k, k < n → 0 ≤ lo.getD k 0 ∧ lo.getD k 0 ≤ hi.getD k 0 ∧ hi.getD k 0 ≤ 1099511627776
  mono : ∀ i j, i ≤ j → j < n → lo.getD i 0 ≤ lo.getD j 0 ∧ hi.getD i 0 ≤ hi.getD j 0
  e1 : b1 < W.heap.size
  e2 : b2 < W.heap.size
theorem ints_kept {W w : World} {b : Nat} {xs : List Int} (h : Src.Ints W b xs) (hb : w.heap[b]? = W.heap[b]?) : Src.Ints w b xs := fun j hj =>
  (World.cell?_of_block (a := ⟨b, j, none⟩) hb).trans (h j hj)
theorem TV.below {W w : World} {s : Int} {b1 b2 n : Nat} {lo hi : List Int} (h : TV W s b1 b2 n lo hi) (hb : Below W.heap.size W w) : TV w s b1 b2 n lo hi :=
  ⟨ints_kept h.l1 (hb.block b1 h.e1), ints_kept h.l2 (hb.block b2 h.e2), h.n1, h.n2, h.n3, h.n9, h.s1, h.s9, h.val, h.mono, Nat.lt_of_lt_of_le h.e1 hb.size, Nat.lt_of_lt_of_le h.e2 hb.size⟩
theorem TV.at1 {W : World} {s : Int} {b1 b2 n : Nat} {lo hi : List Int} (h : TV W s b1 b2 n lo hi) (k : Nat) (hk : k < n) : W.cell? ⟨b1, k, none⟩ = some (.int .i64 (lo.getD k 0)) := h.l1 k (by rw [h.n1]; exact hk)
theorem TV.at2 {W : World} {s : Int} {b1 b2 n : Nat} {lo hi : List Int} (h : TV W s b1 b2 n lo hi) (k : Nat) (hk : k < n) : W.cell? ⟨b2, k, none⟩ = some (.int .i64 (hi.getD k 0)) := h.l2 k (by rw [h.n2]; exact hk)
theorem ks_bd {k s : Int} (k0 : 0 ≤ k) (k1 : k ≤ 256) (s1 : 1 ≤ s) (s9 : s ≤ 1048576) : 0 ≤ k * s ∧ k * s ≤ 268435456 :=
  ⟨Int.mul_nonneg k0 (by omega), Int.le_trans (Int.mul_le_mul k1 s9 (by omega) (by omega)) (by decide)⟩
theorem lowerF (k s dd : Int) (x y : Nat) (w : World) (k0 : 0 ≤ k) (k1 : k ≤ 256) (s1 : 1 ≤ s) (s9 : s ≤ 1048576) (c1 : w.cell? ⟨x, 0, none⟩ = some (.int .i64 s)) (c2 : w.cell? ⟨y, 0, none⟩ = some (.int .i64 dd)) :
    Calls Try.prog 101 #[.int .i64 k, .pointer (some ⟨x, 0, none⟩), .pointer (some ⟨y, 0, none⟩)] w fun e w' => e = .returned (.bool (decide (dd < k * s))) ∧ w' = w := by
  obtain ⟨p0, p1⟩ := ks_bd k0 k1 s1 s9
  go_enter Try.func101, Try.ntmps101
  go_wp2
  go_ret
  exact ⟨rfl, rfl⟩
theorem upperF (k s dd : Int) (x y : Nat) (w : World) (k0 : 0 ≤ k) (k1 : k ≤ 256) (s1 : 1 ≤ s) (s9 : s ≤ 1048576) (c1 : w.cell? ⟨x, 0, none⟩ = some (.int .i64 s)) (c2 : w.cell? ⟨y, 0, none⟩ = some (.int .i64 dd)) :
    Calls Try.prog 102 #[.int .i64 k, .pointer (some ⟨x, 0, none⟩), .pointer (some ⟨y, 0, none⟩)] w fun e w' => e = .returned (.bool (decide (dd ≤ k * s))) ∧ w' = w := by
  obtain ⟨p0, p1⟩ := ks_bd k0 k1 s1 s9
  go_enter Try.func102, Try.ntmps102
  go_wp2
  go_ret
  exact ⟨rfl, rfl⟩
/-- A binary search for the number r with a function that says from r on true. -/
theorem searchL (n r : Nat) (x y : Addr) (w : World) (hr : r ≤ n) (hn : n ≤ 256)
    (H : Hid (∀ k : Nat, k < n → Calls Try.prog 101 #[.int .i64 k, .pointer (some x), .pointer (some y)] w fun e w' => e = .returned (.bool (decide (r ≤ k))) ∧ w' = w)) :
    Calls Try.prog 100 #[.int .i64 n, .func (.func 101) #[] #[.pointer (some x), .pointer (some y)]] w fun e w' => e = .returned (.int .i64 r) ∧ w' = w := by
  go_enter Try.func100, Try.ntmps100
  go_wp2_with fail
  go_loop [5, 6] (fun i j => ∃ a b : Nat, i = .int .i64 a ∧ j = .int .i64 b ∧ a ≤ r ∧ r ≤ b ∧ b ≤ n) (fun i j => (intOf j - intOf i).toNat)
  case atStart => exact ⟨0, n, rfl, rfl, by omega, hr, by omega⟩
  case round =>
    obtain ⟨a, b, rfl, rfl, h1, h2, h3⟩ := hrel
    by_cases hlt : a < b
    · have e2 : Hid (((a : Int) + b) / 2 = (((a + b) / 2 : Nat) : Int)) := Lib.hid (by omega)
      have hm := H.out ((a + b) / 2) (by omega)
      by_cases hq : r ≤ (a + b) / 2
      · rw [decide_eq_true hq] at hm
        replace hm := Lib.hid hm
        go_wp2_with fail
        have hm' := hm.out
        rw [← e2.out] at hm'
        refine hm'.mono ?_
        clear hm'
        rintro e w' ⟨rfl, rfl⟩
        go_wp2
        go_round
        case rel => exact ⟨a, (a + b) / 2, rfl, by simp only [e2.out], h1, hq, by omega⟩
        case measure => simp [intOf]; omega
      · rw [decide_eq_false hq] at hm
        replace hm := Lib.hid hm
        go_wp2_with fail
        have hm' := hm.out
        rw [← e2.out] at hm'
        refine hm'.mono ?_
        clear hm'
        rintro e w' ⟨rfl, rfl⟩
        go_wp2
        go_round
        case rel => exact ⟨(a + b) / 2 + 1, b, congrArg (Value.int .i64) (by omega), rfl, by omega, h2, h3⟩
        case measure => simp [intOf]; omega
    · obtain rfl : a = b := by omega
      obtain rfl : a = r := by omega
      go_wp2
      go_ret
      exact ⟨rfl, rfl⟩
/-- A binary search for the number r with a function that says from r on true. -/
theorem searchU (n r : Nat) (x y : Addr) (w : World) (hr : r ≤ n) (hn : n ≤ 256)
    (H : Hid (∀ k : Nat, k < n → Calls Try.prog 102 #[.int .i64 k, .pointer (some x), .pointer (some y)] w fun e w' => e = .returned (.bool (decide (r ≤ k))) ∧ w' = w)) :
    Calls Try.prog 100 #[.int .i64 n, .func (.func 102) #[] #[.pointer (some x), .pointer (some y)]] w fun e w' => e = .returned (.int .i64 r) ∧ w' = w := by
  go_enter Try.func100, Try.ntmps100
  go_wp2_with fail
  go_loop [5, 6] (fun i j => ∃ a b : Nat, i = .int .i64 a ∧ j = .int .i64 b ∧ a ≤ r ∧ r ≤ b ∧ b ≤ n) (fun i j => (intOf j - intOf i).toNat)
  case atStart => exact ⟨0, n, rfl, rfl, by omega, hr, by omega⟩
  case round =>
    obtain ⟨a, b, rfl, rfl, h1, h2, h3⟩ := hrel
    by_cases hlt : a < b
    · have e2 : Hid (((a : Int) + b) / 2 = (((a + b) / 2 : Nat) : Int)) := Lib.hid (by omega)
      have hm := H.out ((a + b) / 2) (by omega)
      by_cases hq : r ≤ (a + b) / 2
      · rw [decide_eq_true hq] at hm
        replace hm := Lib.hid hm
        go_wp2_with fail
        have hm' := hm.out
        rw [← e2.out] at hm'
        refine hm'.mono ?_
        clear hm'
        rintro e w' ⟨rfl, rfl⟩
        go_wp2
        go_round
        case rel => exact ⟨a, (a + b) / 2, rfl, by simp only [e2.out], h1, hq, by omega⟩
        case measure => simp [intOf]; omega
      · rw [decide_eq_false hq] at hm
        replace hm := Lib.hid hm
        go_wp2_with fail
        have hm' := hm.out
        rw [← e2.out] at hm'
        refine hm'.mono ?_
        clear hm'
        rintro e w' ⟨rfl, rfl⟩
        go_wp2
        go_round
        case rel => exact ⟨(a + b) / 2 + 1, b, congrArg (Value.int .i64) (by omega), rfl, by omega, h2, h3⟩
        case measure => simp [intOf]; omega
    · obtain rfl : a = b := by omega
      obtain rfl : a = r := by omega
      go_wp2
      go_ret
      exact ⟨rfl, rfl⟩
end Trav
end Go.Proofs.Ytldgihlhioeipaa

/- Contracts of package travel, whatever the valid table: lower, upper, Validate, Reach. -/
namespace Go.Proofs.Ytldgihlhioeipaa
open Go.RowKit
namespace Trav
theorem bel2 {w : World} (o p : Obj) : Below w.heap.size w ((w.alloc o).alloc p) := Buf.then_ (new_block o) (new_block p)
theorem lower_yes (s : Int) (b1 b2 n c1 c2 : Nat) (lo hi : List Int) (q : Nat) (dd : Int) (w : World) (h : TV w s b1 b2 n lo hi) (hq : (q : Int) = dd / s) (hn : q < n) :
    Calls Try.prog 95 #[.agg #[.int .i64 s, .slice (some ⟨b1, 0, none⟩) n c1, .slice (some ⟨b2, 0, none⟩) n c2], .int .i64 dd] w fun r w' => r = .returned (.int .i64 (lo.getD q 0)) ∧ Below w.heap.size w w' := by
  have hs := h.s1
  have hs9 := h.s9
  have hn9 := h.n9
  have cq := (h.below (bel2 (.cells #[.int .i64 s, .slice (some ⟨b1, 0, none⟩) n c1, .slice (some ⟨b2, 0, none⟩) n c2] 33) (.cells #[.int .i64 dd] 3))).at1 q hn
  have SR : Hid (∀ w', w'.cell? ⟨w.heap.size, 0, none⟩ = some (.int .i64 s) → w'.cell? ⟨w.heap.size + 1, 0, none⟩ = some (.int .i64 dd) → Calls Try.prog 100 #[.int .i64 n, .func (.func 101) #[] #[.pointer (some ⟨w.heap.size, 0, none⟩), .pointer (some ⟨w.heap.size + 1, 0, none⟩)]] w' fun e w'' => e = .returned (.int .i64 ((q + 1 : Nat) : Int)) ∧ w'' = w') := Lib.hid fun w' x1 x2 => by
    refine searchL n (q + 1) ⟨w.heap.size, 0, none⟩ ⟨w.heap.size + 1, 0, none⟩ w' (by omega) hn9 (Lib.hid fun k hk => ?_)
    have := lowerF k s dd w.heap.size (w.heap.size + 1) w' (by omega) (by omega) hs hs9 x1 x2
    have e : decide (dd < (k : Int) * s) = decide (q + 1 ≤ k) := by
      apply decide_eq_decide.2
      rw [← Int.ediv_lt_iff_lt_mul (by omega), ← hq]; omega
    rwa [e] at this
  clear h hq
  have hn' : (q : Int) < n := by omega
  go_enter Try.func95, Try.ntmps95
  go_wp2_with fail
  refine (SR.out _ (by go_simp) (by go_simp)).mono ?_
  rintro e w' ⟨rfl, rfl⟩
  go_wp2
  go_ret
  exact ⟨rfl, bel2 _ _⟩
theorem upper_yes (s : Int) (b1 b2 n c1 c2 : Nat) (lo hi : List Int) (q : Nat) (dd : Int) (w : World) (h : TV w s b1 b2 n lo hi) (hq : (q : Int) = (dd + s - 1) / s) (hn : q < n) :
    Calls Try.prog 97 #[.agg #[.int .i64 s, .slice (some ⟨b1, 0, none⟩) n c1, .slice (some ⟨b2, 0, none⟩) n c2], .int .i64 dd] w fun r w' => r = .returned (.int .i64 (hi.getD q 0)) ∧ Below w.heap.size w w' := by
  have hs := h.s1
  have hs9 := h.s9
  have hn9 := h.n9
  have cq := (h.below (bel2 (.cells #[.int .i64 s, .slice (some ⟨b1, 0, none⟩) n c1, .slice (some ⟨b2, 0, none⟩) n c2] 33) (.cells #[.int .i64 dd] 3))).at2 q hn
  have SR : Hid (∀ w', w'.cell? ⟨w.heap.size, 0, none⟩ = some (.int .i64 s) → w'.cell? ⟨w.heap.size + 1, 0, none⟩ = some (.int .i64 dd) → Calls Try.prog 100 #[.int .i64 n, .func (.func 102) #[] #[.pointer (some ⟨w.heap.size, 0, none⟩), .pointer (some ⟨w.heap.size + 1, 0, none⟩)]] w' fun e w'' => e = .returned (.int .i64 ((q : Nat) : Int)) ∧ w'' = w') := Lib.hid fun w' x1 x2 => by
    refine searchU n q ⟨w.heap.size, 0, none⟩ ⟨w.heap.size + 1, 0, none⟩ w' (by omega) hn9 (Lib.hid fun k hk => ?_)
    have := upperF k s dd w.heap.size (w.heap.size + 1) w' (by omega) (by omega) hs hs9 x1 x2
    have e : decide (dd ≤ (k : Int) * s) = decide (q ≤ k) := by
      apply decide_eq_decide.2
      have h1 : (dd + s - 1) / s < (k : Int) + 1 ↔ dd + s - 1 < ((k : Int) + 1) * s := Int.ediv_lt_iff_lt_mul (by omega)
      rw [Int.add_mul, Int.one_mul, ← hq] at h1
      omega
    rwa [e] at this
  clear h hq
  have hn' : (q : Int) < n := by omega
  go_enter Try.func97, Try.ntmps97
  go_wp2_with fail
  go_quiet ((go_at_call 100; exact Calls.quiet_of_same (SR.out _ (by go_simp) (by go_simp))))
  go_wp2
  go_ret
  exact ⟨rfl, Buf.below_drewN (bel2 _ _) _⟩
/-- The errors of a valid table. -/
theorem validate_yes (s : Int) (b1 b2 n c1 c2 : Nat) (lo hi : List Int) (w : World) (h : TV w s b1 b2 n lo hi) :
    Calls Try.prog 69 #[.agg #[.int .i64 s, .slice (some ⟨b1, 0, none⟩) n c1, .slice (some ⟨b2, 0, none⟩) n c2]] w fun r w' => r = .returned (.int .i64 0) ∧ Below w.heap.size w w' := by
  have hs := h.s1
  have hs9 := h.s9
  have hn3 := h.n3
  have hn9 := h.n9
  have p1 : (w.alloc (.cells #[.int .i64 s, .slice (some ⟨b1, 0, none⟩) n c1, .slice (some ⟨b2, 0, none⟩) n c2] 33)).heap[w.heap.size]? = some (.cells #[.int .i64 s, .slice (some ⟨b1, 0, none⟩) n c1, .slice (some ⟨b2, 0, none⟩) n c2] 33 (0, 0)) := heap_alloc_new _ _
  have hT := Lib.hid h
  have hT1 := Lib.hid (h.below (new_block (.cells #[.int .i64 s, .slice (some ⟨b1, 0, none⟩) n c1, .slice (some ⟨b2, 0, none⟩) n c2] 33)))
  have hW : Hid (Below w.heap.size w (w.alloc (.cells #[.int .i64 s, .slice (some ⟨b1, 0, none⟩) n c1, .slice (some ⟨b2, 0, none⟩) n c2] 33))) := Lib.hid (new_block _)
  replace p1 := Lib.hid p1
  clear h
  have hn3' : (2 : Int) ≤ n := by omega
  have hn9' : (n : Int) ≤ 256 := by omega
  go_enter Try.func69, Try.ntmps69
  go_wp2
  go_loopw [4, 5, 34] (fun u v i wr => ∃ (k : Nat) (p q : Int), k ≤ n ∧ i = .int .i64 k ∧ u = .int .i64 p ∧ v = .int .i64 q ∧ Hid (∀ j, k ≤ j → j < n → p ≤ lo.getD j 0 ∧ q ≤ hi.getD j 0) ∧ Hid (wr.heap[w.heap.size]? = some (.cells #[.int .i64 s, .slice (some ⟨b1, 0, none⟩) n c1, .slice (some ⟨b2, 0, none⟩) n c2] 33 (0, 0))) ∧ Hid (TV wr s b1 b2 n lo hi) ∧ Hid (Below w.heap.size w wr)) (fun _ _ i _ => n - (intOf i).toNat)
  case atStart => exact ⟨0, 0, 0, by omega, rfl, rfl, rfl, Lib.hid fun j _ hj => by have := hT.out.val j hj; omega, p1, hT1, hW⟩
  case round =>
    clear p1 hT hT1 hW
    obtain ⟨k, p, q, hk, rfl, rfl, rfl, hpq, p1, hT, hW⟩ := hrel
    have x1 := cell_of_row wr w.heap.size 0 _ _ _ p1.out
    have x2 := cell_of_row wr w.heap.size 1 _ _ _ p1.out
    have x3 := cell_of_row wr w.heap.size 2 _ _ _ p1.out
    simp at x1 x2 x3
    by_cases hlt : k < n
    · have hlt' : (k : Int) < n := by omega
      have y1 := hT.out.at1 k hlt
      have y2 := hT.out.at2 k hlt
      obtain ⟨v0, v1, v2⟩ := hT.out.val k hlt
      obtain ⟨m0, m1⟩ := hpq.out k (Nat.le_refl _) hlt
      have hm := Lib.hid fun j (h1 : k + 1 ≤ j) (h2 : j < n) => hT.out.mono k j (by omega) h2
      generalize lo.getD k 0 = lk at *
      generalize hi.getD k 0 = hk2 at *
      have d1 : decide (lk < p) = false := by simp; omega
      have d2 : decide (hk2 < q) = false := by simp; omega
      have d3 : decide (hk2 < lk) = false := by simp; omega
      have d4 : decide (1099511627776 < hk2) = false := by simp; omega
      go_wp2_with fail
      go_quiet (fail)
      go_wp2_with fail
      go_quiet (fail)
      go_wp2
      go_roundw
      case rel => exact ⟨k + 1, lk, hk2, by omega, by go_num, rfl, rfl, hm, p1, Lib.hid (hT.out.below (Buf.below_drewN (Below.refl _ _) _)), Lib.hid (Buf.below_drewN hW.out _)⟩
      case measure => simp [intOf]; omega
    · obtain rfl : k = n := by omega
      go_wp2
      go_ret
      exact ⟨rfl, hW.out⟩
theorem tcells {w : World} {g : Nat} {x y z : Value} {t : TypeId} (h : w.heap[g]? = some (.cells #[x, y, z] t (0, 0))) : w.cell? ⟨g, 0, none⟩ = some x ∧ w.cell? ⟨g, 1, none⟩ = some y ∧ w.cell? ⟨g, 2, none⟩ = some z :=
  ⟨cell_of_row w g 0 _ _ _ h, cell_of_row w g 1 _ _ _ h, cell_of_row w g 2 _ _ _ h⟩
end Trav
end Go.Proofs.Ytldgihlhioeipaa

/- Contracts of package travel, whatever the valid table: Reach, Between. -/
namespace Go.Proofs.Ytldgihlhioeipaa
open Go.RowKit
namespace Trav
theorem blk_b {w w' : World} {g : Nat} {o : Obj} (hb : Below w.heap.size w w') (h : w.heap[g]? = some o) : w'.heap[g]? = some o := by
  rw [hb.block g (Array.getElem?_eq_some_iff.1 h).1]; exact h
theorem reach_bd {s : Int} {n : Nat} (s1 : 1 ≤ s) (s9 : s ≤ 1048576) (n3 : 2 ≤ n) (n9 : n ≤ 256) : 1 ≤ s * ((n : Int) - 1) ∧ s * ((n : Int) - 1) ≤ 267386880 := by
  have h1 : 1 * 1 ≤ s * ((n : Int) - 1) := Int.mul_le_mul s1 (by omega) (by omega) (by omega)
  have h2 : s * ((n : Int) - 1) ≤ 1048576 * 255 := Int.mul_le_mul s9 (by omega) (by omega) (by omega)
  omega
set_option maxRecDepth 100000 in
theorem reach_yes (s : Int) (b1 b2 n c1 c2 : Nat) (w : World) (s1 : 1 ≤ s) (s9 : s ≤ 1048576) (n3 : 2 ≤ n) (n9 : n ≤ 256) :
    Calls Try.prog 94 #[.agg #[.int .i64 s, .slice (some ⟨b1, 0, none⟩) n c1, .slice (some ⟨b2, 0, none⟩) n c2]] w fun r w' => r = .returned (.int .i64 (s * ((n : Int) - 1))) ∧ Below w.heap.size w w' := by
  obtain ⟨r1, r2⟩ := reach_bd s1 s9 n3 n9
  have n3' : (2 : Int) ≤ n := by omega
  have n9' : (n : Int) ≤ 256 := by omega
  go_enter Try.func94, Try.ntmps94
  go_wp2
  go_ret
  exact ⟨rfl, new_block _⟩
theorem ce_spec (n : Int) (n0 : 0 ≤ n) (n1 : n ≤ 4611686018427387904) : 0 ≤ Root.ce n ∧ Root.ce n ≤ 2147483649 ∧ n ≤ Root.ce n * Root.ce n := by
  obtain ⟨r0, r9, s0, s1⟩ := Root.rt_spec n n0 n1
  unfold Root.ce
  split
  · exact ⟨by omega, by omega, by omega⟩
  · exact ⟨r0, by omega, by omega⟩
theorem calm0 {P : Program} {f : FuncId} {args : Array Value} {W w : World} {v : Value} (hC : Below W.heap.size W w) (h : Calls P f args w fun e w' => e = .returned v ∧ w' = w) :
    Calls P f args w fun e w' => e = .returned v ∧ Below W.heap.size W w' := h.mono fun _ _ ⟨he, hb⟩ => ⟨he, by rw [hb]; exact hC⟩
set_option maxRecDepth 100000 in
/-- The time of the distance q1 below, and of q2 above. -/
theorem between_ok (s : Int) (b1 b2 n c1 c2 : Nat) (lo hi : List Int) (near far : Int) (q1 q2 : Nat) (w : World) (h : TV w s b1 b2 n lo hi) (n0 : 0 ≤ near) (nf : near ≤ far) (f9 : far ≤ 4611686018427387904) (hr : Root.ce far ≤ s * ((n : Int) - 1))
    (h1 : (q1 : Int) = Root.rt near 32 / s) (h2 : (q2 : Int) = (Root.ce far + s - 1) / s) :
    Calls Try.prog 82 #[.agg #[.int .i64 s, .slice (some ⟨b1, 0, none⟩) n c1, .slice (some ⟨b2, 0, none⟩) n c2], .int .i64 near, .int .i64 far] w fun r w' => r = .returned (.tuple #[.int .i64 (lo.getD q1 0), .int .i64 (hi.getD q2 0), .int .i64 0]) ∧ Below w.heap.size w w' := by
  obtain ⟨r0, r9, rs0, rs1⟩ := Root.rt_spec near n0 (by omega)
  obtain ⟨e0, e9, e1⟩ := ce_spec far (by omega) f9
  have s1 := h.s1
  have s9 := h.s9
  have hre : Root.rt near 32 ≤ Root.ce far := Root.sq_le_of r0 (by omega) e0
  have hq1 : q1 < n := by
    have : Root.rt near 32 / s < n := (Int.ediv_lt_iff_lt_mul (by omega)).2 (by
      have : (n : Int) * s = s * ((n : Int) - 1) + s := by rw [Int.mul_sub, Int.mul_one, Int.mul_comm]; omega
      omega)
    omega
  have hq2 : q2 < n := by
    have : (Root.ce far + s - 1) / s < n := (Int.ediv_lt_iff_lt_mul (by omega)).2 (by
      have : (n : Int) * s = s * ((n : Int) - 1) + s := by rw [Int.mul_sub, Int.mul_one, Int.mul_comm]; omega
      omega)
    omega
  obtain ⟨rb1, rb2⟩ := reach_bd h.s1 h.s9 h.n3 h.n9
  have V := Lib.hid (validate_yes s b1 b2 n c1 c2 lo hi _ (h.below (new_block (.cells #[.int .i64 s, .slice (some ⟨b1, 0, none⟩) n c1, .slice (some ⟨b2, 0, none⟩) n c2] 33))))
  have R := Lib.hid fun w => reach_yes s b1 b2 n c1 c2 w h.s1 h.s9 h.n3 h.n9
  have F := Lib.hid fun w => Root.floor_any near w n0 (by omega)
  have C := Lib.hid fun w => Root.ceil_any far w (by omega) f9
  have LO := Lib.hid fun (w' : World) (hb : Below w.heap.size w w') => lower_yes s b1 b2 n c1 c2 lo hi q1 (Root.rt near 32) w' (h.below hb) h1 hq1
  have UP := Lib.hid fun (w' : World) (hb : Below w.heap.size w w') => upper_yes s b1 b2 n c1 c2 lo hi q2 (Root.ce far) w' (h.below hb) h2 hq2
  have p1 : (w.alloc (.cells #[.int .i64 s, .slice (some ⟨b1, 0, none⟩) n c1, .slice (some ⟨b2, 0, none⟩) n c2] 33)).heap[w.heap.size]? = some (.cells #[.int .i64 s, .slice (some ⟨b1, 0, none⟩) n c1, .slice (some ⟨b2, 0, none⟩) n c2] 33 (0, 0)) := heap_alloc_new _ _
  replace p1 := Lib.hid p1
  generalize Root.rt near 32 = rn at *
  generalize Root.ce far = cf at *
  generalize s * ((n : Int) - 1) = rr at *
  clear h h1 h2 hq1 hq2 rs0 rs1 e1 hre
  go_enter Try.func82, Try.ntmps82
  go_wp2_with fail
  refine V.out.mono ?_
  rintro e w1 ⟨rfl, hb⟩
  replace p1 := Lib.hid (blk_b hb p1.out)
  have hW := Lib.hid (Buf.then_ (new_block (.cells #[.int .i64 s, .slice (some ⟨b1, 0, none⟩) n c1, .slice (some ⟨b2, 0, none⟩) n c2] 33)) hb)
  clear hb
  obtain ⟨x1, x2, x3⟩ := tcells p1.out
  go_wp2_with (first | (go_at_call 93; (with_reducible refine (C.out _).mono ?_); rintro e w2 ⟨rfl, rfl⟩) | (go_at_call 94; (with_reducible refine (R.out _).mono ?_); rintro e w2 ⟨rfl, hc⟩; replace p1 := Lib.hid (blk_b hc p1.out); replace hW := Lib.hid (Buf.then_ hW.out hc); clear hc))
  clear x1 x2 x3
  refine Buf.region_calm w2 (by kernel_rfl) (by kernel_rfl) (Below.refl _ _) ?_
  repeat (go_big_quiet_step ((intro hC; first
    | (go_at_call 96; (with_reducible exact calm0 hC (F.out _)))
    | (go_at_call 95; (with_reducible exact Buf.calm hC (LO.out _ (Buf.then_ hW.out hC))))
    | (go_at_call 97; (with_reducible exact Buf.calm hC (UP.out _ (Buf.then_ hW.out hC))))
    | rfl
    | (simp only [(tcells (blk_b hC p1.out)).1, (tcells (blk_b hC p1.out)).2.1, (tcells (blk_b hC p1.out)).2.2, Result.andThen_ok]; exact ⟨trivial, rfl⟩))))
  refine wpQuiet_nil ?_
  intro w3 hc
  go_wp2
  go_ret3
  exact ⟨rfl, Buf.then_ hW.out hc⟩
end Trav
end Go.Proofs.Ytldgihlhioeipaa
