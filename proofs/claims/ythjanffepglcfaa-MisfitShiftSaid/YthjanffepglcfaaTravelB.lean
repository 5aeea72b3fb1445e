/- Contracts of package travel, whatever the valid table: lower, upper, Validate, Reach. -/
import Derived.Test.YthjanffepglcfaaTravel
namespace Go.Proofs.Ythjanffepglcfaa
open Go.RowKit
namespace Trav
theorem bel2 {w : World} (o p : Obj) : Below w.heap.size w ((w.alloc o).alloc p) := Buf.then_ (new_block o) (new_block p)
theorem lower_yes (s : Int) (b1 b2 n c1 c2 : Nat) (lo hi : List Int) (q : Nat) (dd : Int) (w : World) (h : TV w s b1 b2 n lo hi) (hq : (q : Int) = dd / s) (hn : q < n) :
    Calls Try.prog 76 #[.agg #[.int .i64 s, .slice (some ⟨b1, 0, none⟩) n c1, .slice (some ⟨b2, 0, none⟩) n c2], .int .i64 dd] w fun r w' => r = .returned (.int .i64 (lo.getD q 0)) ∧ Below w.heap.size w w' := by
  have hs := h.s1
  have hs9 := h.s9
  have hn9 := h.n9
  have cq := (h.below (bel2 (.cells #[.int .i64 s, .slice (some ⟨b1, 0, none⟩) n c1, .slice (some ⟨b2, 0, none⟩) n c2] 30) (.cells #[.int .i64 dd] 3))).at1 q hn
  have SR : Hid (∀ w', w'.cell? ⟨w.heap.size, 0, none⟩ = some (.int .i64 s) → w'.cell? ⟨w.heap.size + 1, 0, none⟩ = some (.int .i64 dd) → Calls Try.prog 78 #[.int .i64 n, .func (.func 79) #[] #[.pointer (some ⟨w.heap.size, 0, none⟩), .pointer (some ⟨w.heap.size + 1, 0, none⟩)]] w' fun e w'' => e = .returned (.int .i64 ((q + 1 : Nat) : Int)) ∧ w'' = w') := Lib.hid fun w' x1 x2 => by
    refine searchL n (q + 1) ⟨w.heap.size, 0, none⟩ ⟨w.heap.size + 1, 0, none⟩ w' (by omega) hn9 (Lib.hid fun k hk => ?_)
    have := lowerF k s dd w.heap.size (w.heap.size + 1) w' (by omega) (by omega) hs hs9 x1 x2
    have e : decide (dd < (k : Int) * s) = decide (q + 1 ≤ k) := by
      apply decide_eq_decide.2
      rw [← Int.ediv_lt_iff_lt_mul (by omega), ← hq]; omega
    rwa [e] at this
  clear h hq
  have hn' : (q : Int) < n := by omega
  go_enter Try.func76, Try.ntmps76
  go_wp2_with fail
  refine (SR.out _ (by go_simp) (by go_simp)).mono ?_
  rintro e w' ⟨rfl, rfl⟩
  go_wp2
  go_ret
  exact ⟨rfl, bel2 _ _⟩
theorem upper_yes (s : Int) (b1 b2 n c1 c2 : Nat) (lo hi : List Int) (q : Nat) (dd : Int) (w : World) (h : TV w s b1 b2 n lo hi) (hq : (q : Int) = (dd + s - 1) / s) (hn : q < n) :
    Calls Try.prog 77 #[.agg #[.int .i64 s, .slice (some ⟨b1, 0, none⟩) n c1, .slice (some ⟨b2, 0, none⟩) n c2], .int .i64 dd] w fun r w' => r = .returned (.int .i64 (hi.getD q 0)) ∧ Below w.heap.size w w' := by
  have hs := h.s1
  have hs9 := h.s9
  have hn9 := h.n9
  have cq := (h.below (bel2 (.cells #[.int .i64 s, .slice (some ⟨b1, 0, none⟩) n c1, .slice (some ⟨b2, 0, none⟩) n c2] 30) (.cells #[.int .i64 dd] 3))).at2 q hn
  have SR : Hid (∀ w', w'.cell? ⟨w.heap.size, 0, none⟩ = some (.int .i64 s) → w'.cell? ⟨w.heap.size + 1, 0, none⟩ = some (.int .i64 dd) → Calls Try.prog 78 #[.int .i64 n, .func (.func 80) #[] #[.pointer (some ⟨w.heap.size, 0, none⟩), .pointer (some ⟨w.heap.size + 1, 0, none⟩)]] w' fun e w'' => e = .returned (.int .i64 ((q : Nat) : Int)) ∧ w'' = w') := Lib.hid fun w' x1 x2 => by
    refine searchU n q ⟨w.heap.size, 0, none⟩ ⟨w.heap.size + 1, 0, none⟩ w' (by omega) hn9 (Lib.hid fun k hk => ?_)
    have := upperF k s dd w.heap.size (w.heap.size + 1) w' (by omega) (by omega) hs hs9 x1 x2
    have e : decide (dd ≤ (k : Int) * s) = decide (q ≤ k) := by
      apply decide_eq_decide.2
      have h1 : (dd + s - 1) / s < (k : Int) + 1 ↔ dd + s - 1 < ((k : Int) + 1) * s := Int.ediv_lt_iff_lt_mul (by omega)
      rw [Int.add_mul, Int.one_mul, ← hq] at h1
      omega
    rwa [e] at this
  clear h hq
  have hn' : (q : Int) < n := by omega
  go_enter Try.func77, Try.ntmps77
  go_wp2_with fail
  go_quiet ((go_at_call 78; exact Calls.quiet_of_same (SR.out _ (by go_simp) (by go_simp))))
  go_wp2
  go_ret
  exact ⟨rfl, Buf.below_drewN (bel2 _ _) _⟩
/-- The errors of a valid table. -/
theorem validate_yes (s : Int) (b1 b2 n c1 c2 : Nat) (lo hi : List Int) (w : World) (h : TV w s b1 b2 n lo hi) :
    Calls Try.prog 64 #[.agg #[.int .i64 s, .slice (some ⟨b1, 0, none⟩) n c1, .slice (some ⟨b2, 0, none⟩) n c2]] w fun r w' => r = .returned (.int .i64 0) ∧ Below w.heap.size w w' := by
  have hs := h.s1
  have hs9 := h.s9
  have hn3 := h.n3
  have hn9 := h.n9
  have p1 : (w.alloc (.cells #[.int .i64 s, .slice (some ⟨b1, 0, none⟩) n c1, .slice (some ⟨b2, 0, none⟩) n c2] 30)).heap[w.heap.size]? = some (.cells #[.int .i64 s, .slice (some ⟨b1, 0, none⟩) n c1, .slice (some ⟨b2, 0, none⟩) n c2] 30 (0, 0)) := heap_alloc_new _ _
  have hT := Lib.hid h
  have hT1 := Lib.hid (h.below (new_block (.cells #[.int .i64 s, .slice (some ⟨b1, 0, none⟩) n c1, .slice (some ⟨b2, 0, none⟩) n c2] 30)))
  have hW : Hid (Below w.heap.size w (w.alloc (.cells #[.int .i64 s, .slice (some ⟨b1, 0, none⟩) n c1, .slice (some ⟨b2, 0, none⟩) n c2] 30))) := Lib.hid (new_block _)
  replace p1 := Lib.hid p1
  clear h
  have hn3' : (2 : Int) ≤ n := by omega
  have hn9' : (n : Int) ≤ 256 := by omega
  go_enter Try.func64, Try.ntmps64
  go_wp2
  go_loopw [4, 5, 34] (fun u v i wr => ∃ (k : Nat) (p q : Int), k ≤ n ∧ i = .int .i64 k ∧ u = .int .i64 p ∧ v = .int .i64 q ∧ Hid (∀ j, k ≤ j → j < n → p ≤ lo.getD j 0 ∧ q ≤ hi.getD j 0) ∧ Hid (wr.heap[w.heap.size]? = some (.cells #[.int .i64 s, .slice (some ⟨b1, 0, none⟩) n c1, .slice (some ⟨b2, 0, none⟩) n c2] 30 (0, 0))) ∧ Hid (TV wr s b1 b2 n lo hi) ∧ Hid (Below w.heap.size w wr)) (fun _ _ i _ => n - (intOf i).toNat)
  case atStart => exact ⟨0, 0, 0, by omega, rfl, rfl, rfl, Lib.hid fun j _ hj => by have := hT.out.val j hj; omega, p1, hT1, hW⟩
  case round =>
    clear p1 hT hT1 hW
    obtain ⟨k, p, q, hk, rfl, rfl, rfl, hpq, p1, hT, hW⟩ := hrel
    have x1 := cell_of_row wr w.heap.size 0 _ _ _ p1.out
    have x2 := cell_of_row wr w.heap.size 1 _ _ _ p1.out
    have x3 := cell_of_row wr w.heap.size 2 _ _ _ p1.out
    simp at x1 x2 x3
    by_cases hlt : k < n
    · have hlt' : (k : Int) < n := by omega
      have y1 := hT.out.at1 k hlt
      have y2 := hT.out.at2 k hlt
      obtain ⟨v0, v1, v2⟩ := hT.out.val k hlt
      obtain ⟨m0, m1⟩ := hpq.out k (Nat.le_refl _) hlt
      have hm := Lib.hid fun j (h1 : k + 1 ≤ j) (h2 : j < n) => hT.out.mono k j (by omega) h2
      generalize lo.getD k 0 = lk at *
      generalize hi.getD k 0 = hk2 at *
      have d1 : decide (lk < p) = false := by simp; omega
      have d2 : decide (hk2 < q) = false := by simp; omega
      have d3 : decide (hk2 < lk) = false := by simp; omega
      have d4 : decide (1099511627776 < hk2) = false := by simp; omega
      go_wp2_with fail
      go_quiet (fail)
      go_wp2_with fail
      go_quiet (fail)
      go_wp2
      go_roundw
      case rel => exact ⟨k + 1, lk, hk2, by omega, by go_num, rfl, rfl, hm, p1, Lib.hid (hT.out.below (Buf.below_drewN (Below.refl _ _) _)), Lib.hid (Buf.below_drewN hW.out _)⟩
      case measure => simp [intOf]; omega
    · obtain rfl : k = n := by omega
      go_wp2
      go_ret
      exact ⟨rfl, hW.out⟩
theorem tcells {w : World} {g : Nat} {x y z : Value} {t : TypeId} (h : w.heap[g]? = some (.cells #[x, y, z] t (0, 0))) : w.cell? ⟨g, 0, none⟩ = some x ∧ w.cell? ⟨g, 1, none⟩ = some y ∧ w.cell? ⟨g, 2, none⟩ = some z :=
  ⟨cell_of_row w g 0 _ _ _ h, cell_of_row w g 1 _ _ _ h, cell_of_row w g 2 _ _ _ h⟩
end Trav
end Go.Proofs.Ythjanffepglcfaa
