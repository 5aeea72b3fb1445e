/- Stores of a whole problem; the flat problems of the example, and the example. -/
import Derived.Test.YtmmikihkfpkapaaMisD
import Derived.Test.YtmmikihkfpkapaaBoundA
set_option linter.unusedVariables false
set_option linter.unusedSimpArgs false
namespace Go.Proofs.Ytmmikihkfpkapaa
open Go.RowKit
namespace Mis
theorem st11 {w : World} {g : Nat} {a b c d e f s l h p q : Value} {t : TypeId} (hh : w.heap[g]? = some (.cells #[a, b, c, d, e, f, s, l, h, p, q] t (0, 0))) (a1 b1 c1 d1 e1 f1 s1 l1 h1 p1 q1 : Value) :
    (((((((((((w.setCell ⟨g, 0, none⟩ a1).setCell ⟨g, 1, none⟩ b1).setCell ⟨g, 2, none⟩ c1).setCell ⟨g, 3, none⟩ d1).setCell ⟨g, 4, none⟩ e1).setCell ⟨g, 5, none⟩ f1).setCell ⟨g, 6, none⟩ s1).setCell ⟨g, 7, none⟩ l1).setCell ⟨g, 8, none⟩ h1).setCell ⟨g, 9, none⟩ p1).setCell ⟨g, 10, none⟩ q1).heap[g]? = some (.cells #[a1, b1, c1, d1, e1, f1, s1, l1, h1, p1, q1] t (0, 0)) := by
  have k0 := (heap_setCell_same w g 0 _ _ a1 hh).trans (show _ = some (.cells #[a1, b, c, d, e, f, s, l, h, p, q] t (0, 0)) from rfl)
  have k1 := (heap_setCell_same (w.setCell ⟨g, 0, none⟩ a1) g 1 _ _ b1 k0).trans (show _ = some (.cells #[a1, b1, c, d, e, f, s, l, h, p, q] t (0, 0)) from rfl)
  have k2 := (heap_setCell_same ((w.setCell ⟨g, 0, none⟩ a1).setCell ⟨g, 1, none⟩ b1) g 2 _ _ c1 k1).trans (show _ = some (.cells #[a1, b1, c1, d, e, f, s, l, h, p, q] t (0, 0)) from rfl)
  have k3 := (heap_setCell_same (((w.setCell ⟨g, 0, none⟩ a1).setCell ⟨g, 1, none⟩ b1).setCell ⟨g, 2, none⟩ c1) g 3 _ _ d1 k2).trans (show _ = some (.cells #[a1, b1, c1, d1, e, f, s, l, h, p, q] t (0, 0)) from rfl)
  have k4 := (heap_setCell_same ((((w.setCell ⟨g, 0, none⟩ a1).setCell ⟨g, 1, none⟩ b1).setCell ⟨g, 2, none⟩ c1).setCell ⟨g, 3, none⟩ d1) g 4 _ _ e1 k3).trans (show _ = some (.cells #[a1, b1, c1, d1, e1, f, s, l, h, p, q] t (0, 0)) from rfl)
  have k5 := (heap_setCell_same (((((w.setCell ⟨g, 0, none⟩ a1).setCell ⟨g, 1, none⟩ b1).setCell ⟨g, 2, none⟩ c1).setCell ⟨g, 3, none⟩ d1).setCell ⟨g, 4, none⟩ e1) g 5 _ _ f1 k4).trans (show _ = some (.cells #[a1, b1, c1, d1, e1, f1, s, l, h, p, q] t (0, 0)) from rfl)
  have k6 := (heap_setCell_same ((((((w.setCell ⟨g, 0, none⟩ a1).setCell ⟨g, 1, none⟩ b1).setCell ⟨g, 2, none⟩ c1).setCell ⟨g, 3, none⟩ d1).setCell ⟨g, 4, none⟩ e1).setCell ⟨g, 5, none⟩ f1) g 6 _ _ s1 k5).trans (show _ = some (.cells #[a1, b1, c1, d1, e1, f1, s1, l, h, p, q] t (0, 0)) from rfl)
  have k7 := (heap_setCell_same (((((((w.setCell ⟨g, 0, none⟩ a1).setCell ⟨g, 1, none⟩ b1).setCell ⟨g, 2, none⟩ c1).setCell ⟨g, 3, none⟩ d1).setCell ⟨g, 4, none⟩ e1).setCell ⟨g, 5, none⟩ f1).setCell ⟨g, 6, none⟩ s1) g 7 _ _ l1 k6).trans (show _ = some (.cells #[a1, b1, c1, d1, e1, f1, s1, l1, h, p, q] t (0, 0)) from rfl)
  have k8 := (heap_setCell_same ((((((((w.setCell ⟨g, 0, none⟩ a1).setCell ⟨g, 1, none⟩ b1).setCell ⟨g, 2, none⟩ c1).setCell ⟨g, 3, none⟩ d1).setCell ⟨g, 4, none⟩ e1).setCell ⟨g, 5, none⟩ f1).setCell ⟨g, 6, none⟩ s1).setCell ⟨g, 7, none⟩ l1) g 8 _ _ h1 k7).trans (show _ = some (.cells #[a1, b1, c1, d1, e1, f1, s1, l1, h1, p, q] t (0, 0)) from rfl)
  have k9 := (heap_setCell_same (((((((((w.setCell ⟨g, 0, none⟩ a1).setCell ⟨g, 1, none⟩ b1).setCell ⟨g, 2, none⟩ c1).setCell ⟨g, 3, none⟩ d1).setCell ⟨g, 4, none⟩ e1).setCell ⟨g, 5, none⟩ f1).setCell ⟨g, 6, none⟩ s1).setCell ⟨g, 7, none⟩ l1).setCell ⟨g, 8, none⟩ h1) g 9 _ _ p1 k8).trans (show _ = some (.cells #[a1, b1, c1, d1, e1, f1, s1, l1, h1, p1, q] t (0, 0)) from rfl)
  have k10 := (heap_setCell_same ((((((((((w.setCell ⟨g, 0, none⟩ a1).setCell ⟨g, 1, none⟩ b1).setCell ⟨g, 2, none⟩ c1).setCell ⟨g, 3, none⟩ d1).setCell ⟨g, 4, none⟩ e1).setCell ⟨g, 5, none⟩ f1).setCell ⟨g, 6, none⟩ s1).setCell ⟨g, 7, none⟩ l1).setCell ⟨g, 8, none⟩ h1).setCell ⟨g, 9, none⟩ p1) g 10 _ _ q1 k9).trans (show _ = some (.cells #[a1, b1, c1, d1, e1, f1, s1, l1, h1, p1, q1] t (0, 0)) from rfl)
  exact k10
theorem st_far {w : World} {g b o : Nat} {x : Obj} (h : w.heap[b]? = some x) (hne : b ≠ g) (v : Value) : (w.setCell ⟨g, o, none⟩ v).heap[b]? = some x := (Below.heap_setCell w ⟨g, o, none⟩ v b hne).trans h
theorem far11 {w : World} {g b : Nat} {x : Obj} (h : w.heap[b]? = some x) (hne : b ≠ g) (a1 b1 c1 d1 e1 f1 s1 l1 h1 p1 q1 : Value) : (((((((((((w.setCell ⟨g, 0, none⟩ a1).setCell ⟨g, 1, none⟩ b1).setCell ⟨g, 2, none⟩ c1).setCell ⟨g, 3, none⟩ d1).setCell ⟨g, 4, none⟩ e1).setCell ⟨g, 5, none⟩ f1).setCell ⟨g, 6, none⟩ s1).setCell ⟨g, 7, none⟩ l1).setCell ⟨g, 8, none⟩ h1).setCell ⟨g, 9, none⟩ p1).setCell ⟨g, 10, none⟩ q1).heap[b]? = some x := (st_far (st_far (st_far (st_far (st_far (st_far (st_far (st_far (st_far (st_far (st_far h hne a1) hne b1) hne c1) hne d1) hne e1) hne f1) hne s1) hne l1) hne h1) hne p1) hne q1)
theorem own_far {w : World} {B sz g o : Nat} {e : TypeId} {v : Value} {n : Nat} {xs : List Value} (h : w.ownsRow B e sz v n xs) (hg : g < B) (u : Value) : (w.setCell ⟨g, o, none⟩ u).ownsRow B e sz v n xs :=
  own_kept h fun k hk => Below.heap_setCell w ⟨g, o, none⟩ u k (by have := (h.lt k hk).1; show k ≠ g; omega)
theorem own_far11 {w : World} {B sz g : Nat} {e : TypeId} {v : Value} {n : Nat} {xs : List Value} (h : w.ownsRow B e sz v n xs) (hg : g < B) (a1 b1 c1 d1 e1 f1 s1 l1 h1 p1 q1 : Value) : (((((((((((w.setCell ⟨g, 0, none⟩ a1).setCell ⟨g, 1, none⟩ b1).setCell ⟨g, 2, none⟩ c1).setCell ⟨g, 3, none⟩ d1).setCell ⟨g, 4, none⟩ e1).setCell ⟨g, 5, none⟩ f1).setCell ⟨g, 6, none⟩ s1).setCell ⟨g, 7, none⟩ l1).setCell ⟨g, 8, none⟩ h1).setCell ⟨g, 9, none⟩ p1).setCell ⟨g, 10, none⟩ q1).ownsRow B e sz v n xs := (own_far (own_far (own_far (own_far (own_far (own_far (own_far (own_far (own_far (own_far (own_far h hg a1) hg b1) hg c1) hg d1) hg e1) hg f1) hg s1) hg l1) hg h1) hg p1) hg q1)
theorem below11 {B g : Nat} {w0 w : World} (h : Below B w0 w) (hg : B ≤ g) (a1 b1 c1 d1 e1 f1 s1 l1 h1 p1 q1 : Value) : Below B w0 (((((((((((w.setCell ⟨g, 0, none⟩ a1).setCell ⟨g, 1, none⟩ b1).setCell ⟨g, 2, none⟩ c1).setCell ⟨g, 3, none⟩ d1).setCell ⟨g, 4, none⟩ e1).setCell ⟨g, 5, none⟩ f1).setCell ⟨g, 6, none⟩ s1).setCell ⟨g, 7, none⟩ l1).setCell ⟨g, 8, none⟩ h1).setCell ⟨g, 9, none⟩ p1).setCell ⟨g, 10, none⟩ q1) := (((((((((((h.setCell (p := ⟨g, 0, none⟩) hg a1).setCell (p := ⟨g, 1, none⟩) hg b1).setCell (p := ⟨g, 2, none⟩) hg c1).setCell (p := ⟨g, 3, none⟩) hg d1).setCell (p := ⟨g, 4, none⟩) hg e1).setCell (p := ⟨g, 5, none⟩) hg f1).setCell (p := ⟨g, 6, none⟩) hg s1).setCell (p := ⟨g, 7, none⟩) hg l1).setCell (p := ⟨g, 8, none⟩) hg h1).setCell (p := ⟨g, 9, none⟩) hg p1).setCell (p := ⟨g, 10, none⟩) hg q1)
theorem f11 {w : World} {g : Nat} {a b c d e f s l h p q : Value} {t : TypeId} (hh : w.heap[g]? = some (.cells #[a, b, c, d, e, f, s, l, h, p, q] t (0, 0))) : w.frozen? ⟨g, 0, none⟩ = false ∧ w.frozen? ⟨g, 1, none⟩ = false ∧ w.frozen? ⟨g, 2, none⟩ = false ∧ w.frozen? ⟨g, 3, none⟩ = false ∧ w.frozen? ⟨g, 4, none⟩ = false ∧ w.frozen? ⟨g, 5, none⟩ = false ∧ w.frozen? ⟨g, 6, none⟩ = false ∧ w.frozen? ⟨g, 7, none⟩ = false ∧ w.frozen? ⟨g, 8, none⟩ = false ∧ w.frozen? ⟨g, 9, none⟩ = false ∧ w.frozen? ⟨g, 10, none⟩ = false := ⟨frozen_of_row w g 0 _ _ hh, frozen_of_row w g 1 _ _ hh, frozen_of_row w g 2 _ _ hh, frozen_of_row w g 3 _ _ hh, frozen_of_row w g 4 _ _ hh, frozen_of_row w g 5 _ _ hh, frozen_of_row w g 6 _ _ hh, frozen_of_row w g 7 _ _ hh, frozen_of_row w g 8 _ _ hh, frozen_of_row w g 9 _ _ hh, frozen_of_row w g 10 _ _ hh⟩
theorem cells11_set9 {w : World} {g : Nat} {a b c d e f s l h p q : Value} {t : TypeId} (hh : w.heap[g]? = some (.cells #[a, b, c, d, e, f, s, l, h, p, q] t (0, 0))) (v : Value) : (w.setCell ⟨g, 9, none⟩ v).heap[g]? = some (.cells #[a, b, c, d, e, f, s, l, h, v, q] t (0, 0)) := (heap_setCell_same w g 9 _ _ v hh).trans rfl
/-- A phase of a flat problem. -/
def pf (z : Int × Int) : Ph := ⟨0, 0, 0, z.1, z.2, 1⟩
theorem ints2 {w : World} {b : Nat} (h : w.heap[b]? = some (.cells #[.int .i64 0, .int .i64 0] 3 (0, 0))) : Src.Ints w b [0, 0] := by
  intro j hj
  obtain ⟨h0, h1⟩ := cell2 h
  simp at hj
  obtain rfl | rfl : j = 0 ∨ j = 1 := by omega
  · exact h0
  · exact h1
theorem flat_tv {w : World} {b1 b2 : Nat} (h1 : w.heap[b1]? = some (.cells #[.int .i64 0, .int .i64 0] 3 (0, 0))) (h2 : w.heap[b2]? = some (.cells #[.int .i64 0, .int .i64 0] 3 (0, 0))) : Trav.TV w 1 b1 b2 2 [0, 0] [0, 0] :=
  ⟨ints2 h1, ints2 h2, rfl, rfl, by decide, by decide, by decide, by decide, fun k hk => by rcases (show k = 0 ∨ k = 1 by omega) with rfl | rfl <;> decide,
    fun i j _ hj => by
      have : ∀ k : Nat, k < 2 → ([0, 0] : List Int).getD k 0 = 0 := fun k hk => by rcases (show k = 0 ∨ k = 1 by omega) with rfl | rfl <;> rfl
      rw [this i (by omega), this j hj]; exact ⟨Int.le_refl _, Int.le_refl _⟩, (Array.getElem?_eq_some_iff.1 h1).1, (Array.getElem?_eq_some_iff.1 h2).1⟩
set_option maxRecDepth 100000 in
set_option maxHeartbeats 8000000 in
theorem flat_any {w : World} {gz n cz : Nat} {Z : List (Int × Int)} (cap : Int) (hz : ZnR w gz Z) (hn : n = Z.length) (n1 : 1 ≤ n) (n9 : n ≤ 64) :
    Calls Try.prog 69 #[.int .i64 cap, .slice (some ⟨gz, 0, none⟩) n cz] w fun r w' => (∃ b1 b2 v, r = .returned (.agg #[.int .i64 0, .int .i64 0, .int .i64 0, .int .i64 0, .int .i64 0, .int .i64 0, .int .i64 1, .slice (some ⟨b1, 0, none⟩) 2 2, .slice (some ⟨b2, 0, none⟩) 2 2, v, .int .i64 cap]) ∧ Trav.TV w' 1 b1 b2 2 [0, 0] [0, 0] ∧ OwnP w' w.heap.size v (Z.map pf)) ∧ Below w.heap.size w w' := by
  obtain ⟨i0, hi, hz0, hz1, hz2⟩ : ∃ i, Try.prog.info? 63 = some i ∧ i.zero = some (.agg #[.int .i64 0, .int .i64 0, .int .i64 0, .int .i64 0, .int .i64 0, .int .i64 0]) ∧ i.size = 6 ∧ i.bytes = 48 := ⟨_, rfl, by kernel_rfl, by kernel_rfl, by kernel_rfl⟩
  have HZ := Lib.hid hz
  have Hn := Lib.hid hn
  obtain ⟨w4, hw4⟩ : ∃ w4, w4 = (((w.alloc (.cells #[.int .i64 0, .int .i64 0, .int .i64 0, .int .i64 0, .int .i64 0, .int .i64 0, .int .i64 0, .slice none 0 0, .slice none 0 0, .slice none 0 0, .int .i64 0] 33)).alloc (.cells #[.int .i64 0, .int .i64 0] 3)).alloc (.cells #[.int .i64 0, .int .i64 0] 3)).alloc (.cells #[.int .i64 0, .int .i64 0, .int .i64 0, .int .i64 0, .int .i64 0, .int .i64 0, .int .i64 1, .slice (some ⟨w.heap.size + 1, 0, none⟩) 2 2, .slice (some ⟨w.heap.size + 2, 0, none⟩) 2 2, .slice none 0 0, .int .i64 cap] 33) := ⟨_, rfl⟩
  have A1 : (w.alloc (.cells #[.int .i64 0, .int .i64 0, .int .i64 0, .int .i64 0, .int .i64 0, .int .i64 0, .int .i64 0, .slice none 0 0, .slice none 0 0, .slice none 0 0, .int .i64 0] 33)).heap.size = w.heap.size + 1 := by simp
  have A2 : ((w.alloc (.cells #[.int .i64 0, .int .i64 0, .int .i64 0, .int .i64 0, .int .i64 0, .int .i64 0, .int .i64 0, .slice none 0 0, .slice none 0 0, .slice none 0 0, .int .i64 0] 33)).alloc (.cells #[.int .i64 0, .int .i64 0] 3)).heap.size = w.heap.size + 2 := by simp
  have A3 : (((w.alloc (.cells #[.int .i64 0, .int .i64 0, .int .i64 0, .int .i64 0, .int .i64 0, .int .i64 0, .int .i64 0, .slice none 0 0, .slice none 0 0, .slice none 0 0, .int .i64 0] 33)).alloc (.cells #[.int .i64 0, .int .i64 0] 3)).alloc (.cells #[.int .i64 0, .int .i64 0] 3)).heap.size = w.heap.size + 3 := by simp
  have W0 := Lib.hid (show Below w.heap.size w w4 by rw [hw4]; exact (((new_block _).alloc (by simp) _).alloc (by simp; omega) _).alloc (by simp; omega) _)
  have P0 := Lib.hid (show w4.heap[w.heap.size]? = some (.cells #[.int .i64 0, .int .i64 0, .int .i64 0, .int .i64 0, .int .i64 0, .int .i64 0, .int .i64 0, .slice none 0 0, .slice none 0 0, .slice none 0 0, .int .i64 0] 33 (0, 0)) by rw [hw4]; exact (heap_alloc_old _ _ (by simp; omega)).trans ((heap_alloc_old _ _ (by simp; omega)).trans ((heap_alloc_old _ _ (by simp)).trans (heap_alloc_new w _))))
  have P1 := Lib.hid (show w4.heap[w.heap.size + 1]? = some (.cells #[.int .i64 0, .int .i64 0] 3 (0, 0)) by rw [hw4]; exact (heap_alloc_old _ _ (by simp)).trans ((heap_alloc_old _ _ (by simp)).trans (by rw [← A1]; exact heap_alloc_new _ _)))
  have P2 := Lib.hid (show w4.heap[w.heap.size + 2]? = some (.cells #[.int .i64 0, .int .i64 0] 3 (0, 0)) by rw [hw4]; exact (heap_alloc_old _ _ (by simp)).trans (by rw [← A2]; exact heap_alloc_new _ _))
  have P3 := Lib.hid (show w4.heap[w.heap.size + 3]? = some (.cells #[.int .i64 0, .int .i64 0, .int .i64 0, .int .i64 0, .int .i64 0, .int .i64 0, .int .i64 1, .slice (some ⟨w.heap.size + 1, 0, none⟩) 2 2, .slice (some ⟨w.heap.size + 2, 0, none⟩) 2 2, .slice none 0 0, .int .i64 cap] 33 (0, 0)) by rw [hw4, ← A3]; exact heap_alloc_new _ _)
  clear hz hn
  go_enter Try.func69, Try.ntmps69
  go_upto_region 2 with fail
  clear A1 A2 A3
  rw [← hw4]
  clear hw4
  go_wp2_with fail
  go_loopw [15] (fun i wr => ∃ (k : Nat) (ad : Option Addr) (kk cc : Nat), k ≤ n ∧ i = .int .i64 k ∧ Hid (kk = k) ∧ Hid (wr.ownsRow (w.heap.size + 4) 63 6 (.slice ad kk cc) kk (cellsP ((Z.take k).map pf))) ∧ Hid (Below w.heap.size w wr) ∧ Hid (wr.heap[w.heap.size]? = some (.cells #[.int .i64 0, .int .i64 0, .int .i64 0, .int .i64 0, .int .i64 0, .int .i64 0, .int .i64 0, .slice none 0 0, .slice none 0 0, .slice none 0 0, .int .i64 0] 33 (0, 0))) ∧ Hid (wr.heap[w.heap.size + 1]? = some (.cells #[.int .i64 0, .int .i64 0] 3 (0, 0))) ∧ Hid (wr.heap[w.heap.size + 2]? = some (.cells #[.int .i64 0, .int .i64 0] 3 (0, 0))) ∧ Hid (wr.heap[w.heap.size + 3]? = some (.cells #[.int .i64 0, .int .i64 0, .int .i64 0, .int .i64 0, .int .i64 0, .int .i64 0, .int .i64 1, .slice (some ⟨w.heap.size + 1, 0, none⟩) 2 2, .slice (some ⟨w.heap.size + 2, 0, none⟩) 2 2, .slice ad kk cc, .int .i64 cap] 33 (0, 0)))) (fun i _ => n - (intOf i).toNat)
  case atStart => exact ⟨0, none, 0, 0, Nat.zero_le _, rfl, Lib.hid rfl, Lib.hid (by simpa [cellsP] using World.ownsRow_nil w4 (w.heap.size + 4) 63 6), W0, P0, P1, P2, P3⟩
  case round =>
    clear W0 P0 P1 P2 P3
    obtain ⟨k, ad, kk, cc, hk, rfl, hkk, O, W0, P0, P1, P2, P3⟩ := hrel
    have z3 := (Array.getElem?_eq_some_iff.1 P3.out).1
    by_cases hlt : k < n
    · have hlt' : (k : Int) < n := by omega
      have hk9 : kk ≤ 64 := by rw [hkk.out]; omega
      obtain ⟨⟨z1, z2⟩, hq⟩ : ∃ q, Z[k]? = some q := ⟨Z[k]'(by rw [← Hn.out]; exact hlt), List.getElem?_eq_getElem _⟩
      obtain ⟨x0, x1⟩ := (HZ.out.below W0.out).2 k _ hq
      dsimp only at x0 x1
      have hsn : Hid (cellsP ((Z.take (k + 1)).map pf) = cellsP ((Z.take k).map pf) ++ [.int .i64 0, .int .i64 0, .int .i64 0, .int .i64 z1, .int .i64 z2, .int .i64 1]) := Lib.hid (by
        obtain ⟨hk', he⟩ := List.getElem?_eq_some_iff.1 hq
        rw [List.take_succ_eq_append_getElem hk', List.map_append, he, show ([((z1, z2) : Int × Int)].map pf) = [pf (z1, z2)] from rfl, cellsP_snoc]; rfl)
      obtain ⟨w5, hw5⟩ : ∃ w5, w5 = wr.alloc (.cells #[.int .i64 z1, .int .i64 z2] 43) := ⟨_, rfl⟩
      have Y5 : Hid (Below wr.heap.size wr w5) := Lib.hid (by rw [hw5]; exact new_block _)
      have N5 := Lib.hid (show w5.heap[wr.heap.size]? = some (.cells #[.int .i64 z1, .int .i64 z2] 43 (0, 0)) by rw [hw5]; exact heap_alloc_new wr _)
      replace hw5 := Lib.hid hw5
      replace hq := Lib.hid hq
      go_upto_region 5 with fail
      rw [← hw5.out]
      clear hw5 x0 x1
      replace P0 := Lib.hid (hb Y5.out P0.out)
      replace P1 := Lib.hid (hb Y5.out P1.out)
      replace P2 := Lib.hid (hb Y5.out P2.out)
      replace P3 := Lib.hid (hb Y5.out P3.out)
      replace O := Lib.hid (own_below O.out Y5.out)
      replace W0 := Lib.hid (Buf.then_ W0.out Y5.out)
      obtain ⟨n0, n1'⟩ := cell2 N5.out
      obtain ⟨e0, e1, e2, e3, e4, e5, e6, e7, e8, e9, e10⟩ := c11 P3.out
      have Y6 : Hid (Below w5.heap.size w5 (w5.alloc (.cells #[.int .i64 0, .int .i64 0, .int .i64 0, .int .i64 z1, .int .i64 z2, .int .i64 1] 63))) := Lib.hid (new_block _)
      have NB := Lib.hid (World.news_of_block (heap_alloc_new w5 (.cells #[.int .i64 0, .int .i64 0, .int .i64 0, .int .i64 z1, .int .i64 z2, .int .i64 1] 63)))
      have OB := Lib.hid (own_below O.out Y6.out)
      have one : Hid (∀ u ∈ [Value.int .i64 0, .int .i64 0, .int .i64 0, .int .i64 z1, .int .i64 z2, .int .i64 1], u.oneCell' = true) := Lib.hid (by simp; exact ⟨rfl, rfl, rfl, rfl⟩)
      have m1 : Hid (kk + 1 ≤ maxLen) := Lib.hid (by unfold maxLen; omega)
      have m2 : Hid ((kk + 1) * 48 ≤ 140737488355328) := Lib.hid (by omega)
      have zb := (Array.getElem?_eq_some_iff.1 P3.out).1
      have hsz : w.heap.size + 4 ≤ (w5.alloc (.cells #[.int .i64 0, .int .i64 0, .int .i64 0, .int .i64 z1, .int .i64 z2, .int .i64 1] 63)).heap.size := by simp; omega
      go_wp2_with (at_builtin; (refine wpList_append_own _ rfl (.tmp 20) (.tmp 26) 31 rfl (w.heap.size + 4) 63 i0 (.agg #[.int .i64 0, .int .i64 0, .int .i64 0, .int .i64 0, .int .i64 0, .int .i64 0]) 6 48 Try.underlying31 hi hz0 hz1 hz2 rfl (by decide) _ kk _ rfl OB.out ⟨w5.heap.size, 0, none⟩ 1 1 _ rfl rfl NB.out one.out m1.out m2.out hsz ?_; intro v' w6 ho hg _; have hg' : (w5.alloc (.cells #[.int .i64 0, .int .i64 0, .int .i64 0, .int .i64 z1, .int .i64 z2, .int .i64 1] 63)).grownBy w6 (Value.slice ad kk cc).ownBlock := hg; have Q3 := Lib.hid ((hg'.block (w.heap.size + 3) (by simp; omega) (fun he => own_ty OB.out (hb Y6.out P3.out) (by decide) he.symm)).trans (hb Y6.out P3.out)); obtain ⟨ra, rm, rc, rfl, hrm⟩ := own_letter ho; obtain ⟨g0, g1, g2, g3, g4, g5, g6, g7, g8, g9, g10⟩ := c11 Q3.out; obtain ⟨u0, u1, u2, u3, u4, u5, u6, u7, u8, u9, u10⟩ := f11 Q3.out))
      have Q0 := Lib.hid ((hg'.block w.heap.size (by simp; omega) (fun he => own_ty OB.out (hb Y6.out P0.out) (by decide) he.symm)).trans (hb Y6.out P0.out))
      have Q1 := Lib.hid ((hg'.block (w.heap.size + 1) (by simp; omega) (fun he => own_ty OB.out (hb Y6.out P1.out) (by decide) he.symm)).trans (hb Y6.out P1.out))
      have Q2 := Lib.hid ((hg'.block (w.heap.size + 2) (by simp; omega) (fun he => own_ty OB.out (hb Y6.out P2.out) (by decide) he.symm)).trans (hb Y6.out P2.out))
      have W6 := Lib.hid ((Buf.then_ W0.out Y6.out).grown hg' (by omega) fun q hq => by have := (OB.out.lt q hq).1; omega)
      have hrm2 : Hid (rm = k + 1) := Lib.hid (by rw [hrm.out, hkk.out])
      have O6 : Hid (w6.ownsRow (w.heap.size + 4) 63 6 (.slice ra rm rc) rm (cellsP ((Z.take (k + 1)).map pf))) := Lib.hid (by
        have e1 := hrm.out
        subst e1
        rw [hsn.out]
        simpa using ho)
      clear ho hg hg' Y5 Y6 NB OB one m1 m2 hsz n0 n1' hrm zb O g0 g1 g2 g3 g4 g5 g6 g7 g8 g9 g10 u0 u1 u2 u3 u4 u5 u6 u7 u8 u9 u10
      go_roundw
      case rel => exact ⟨k + 1, ra, rm, rc, by omega, by go_num, hrm2, Lib.hid (own_far O6.out (by omega) _), Lib.hid (W6.out.setCell (p := ⟨w.heap.size + 3, 9, none⟩) (by show w.heap.size ≤ w.heap.size + 3; omega) _), Lib.hid (st_far Q0.out (by omega) _), Lib.hid (st_far Q1.out (by omega) _), Lib.hid (st_far Q2.out (by omega) _), Lib.hid (cells11_set9 Q3.out _)⟩
      case measure => simp [intOf]; omega
    · obtain rfl : k = n := by omega
      have hfull : Z.take k = Z := List.take_of_length_le (by rw [← Hn.out]; exact Nat.le_refl _)
      rw [hfull] at O
      obtain ⟨e0, e1, e2, e3, e4, e5, e6, e7, e8, e9, e10⟩ := c11 P3.out
      obtain ⟨g0, g1, g2, g3, g4, g5, g6, g7, g8, g9, g10⟩ := c11 P0.out
      obtain ⟨u0, u1, u2, u3, u4, u5, u6, u7, u8, u9, u10⟩ := f11 P0.out
      have X0 := Lib.hid (st11 P0.out (.int .i64 0) (.int .i64 0) (.int .i64 0) (.int .i64 0) (.int .i64 0) (.int .i64 0) (.int .i64 1) (.slice (some ⟨w.heap.size + 1, 0, none⟩) 2 2) (.slice (some ⟨w.heap.size + 2, 0, none⟩) 2 2) (.slice ad kk cc) (.int .i64 cap))
      have X1 := Lib.hid (far11 (g := w.heap.size) P1.out (by omega) (.int .i64 0) (.int .i64 0) (.int .i64 0) (.int .i64 0) (.int .i64 0) (.int .i64 0) (.int .i64 1) (.slice (some ⟨w.heap.size + 1, 0, none⟩) 2 2) (.slice (some ⟨w.heap.size + 2, 0, none⟩) 2 2) (.slice ad kk cc) (.int .i64 cap))
      have X2 := Lib.hid (far11 (g := w.heap.size) P2.out (by omega) (.int .i64 0) (.int .i64 0) (.int .i64 0) (.int .i64 0) (.int .i64 0) (.int .i64 0) (.int .i64 1) (.slice (some ⟨w.heap.size + 1, 0, none⟩) 2 2) (.slice (some ⟨w.heap.size + 2, 0, none⟩) 2 2) (.slice ad kk cc) (.int .i64 cap))
      have XO := Lib.hid (own_far11 (g := w.heap.size) O.out (by omega) (.int .i64 0) (.int .i64 0) (.int .i64 0) (.int .i64 0) (.int .i64 0) (.int .i64 0) (.int .i64 1) (.slice (some ⟨w.heap.size + 1, 0, none⟩) 2 2) (.slice (some ⟨w.heap.size + 2, 0, none⟩) 2 2) (.slice ad kk cc) (.int .i64 cap))
      have XW := Lib.hid (below11 (g := w.heap.size) W0.out (Nat.le_refl _) (.int .i64 0) (.int .i64 0) (.int .i64 0) (.int .i64 0) (.int .i64 0) (.int .i64 0) (.int .i64 1) (.slice (some ⟨w.heap.size + 1, 0, none⟩) 2 2) (.slice (some ⟨w.heap.size + 2, 0, none⟩) 2 2) (.slice ad kk cc) (.int .i64 cap))
      go_wp2_with fail
      refine bodyPost_ret (results_cell_row rfl _ _ w.heap.size _ _ _ _ rfl X0.out rfl (by rfl) rfl) rfl ⟨⟨_, _, _, rfl, flat_tv X1.out X2.out, ?_⟩, XW.out⟩
      have e9 : kk = (Z.map pf).length := by rw [hkk.out, List.length_map, ← Hn.out]
      unfold OwnP
      rw [← e9]
      exact own_mono XO.out (by omega)
/-- The table of a flat problem. -/
def FT (b1 b2 : Nat) (w : World) : Prop := Trav.TV w 1 b1 b2 2 [0, 0] [0, 0]
theorem rt0 : Root.rt 0 32 = 0 := by decide +kernel
theorem ce0 : Root.ce 0 = 0 := by decide +kernel
theorem pv0 : Geo.PV 0 0 0 := ⟨by decide, by decide, by decide, by decide, by decide, by decide⟩
theorem bv0 : Geo.BV 0 0 0 0 0 0 := ⟨pv0, pv0, by decide, by decide, by decide⟩
theorem near0 : Geo.near3 0 0 0 0 0 0 0 0 0 = 0 := by decide
theorem far0 : Geo.far3 0 0 0 0 0 0 0 0 0 = 0 := by decide
theorem flat_pk (b1 b2 : Nat) (cap : Int) (c0 : 1 ≤ cap) (c9 : cap ≤ 2000) (Z : List (Int × Int)) (n1 : 1 ≤ Z.length) (n9 : Z.length ≤ 64) (hz : ∀ (k : Nat) (q : Int × Int), Z[k]? = some q → 0 ≤ q.1 ∧ q.1 ≤ q.2 ∧ q.2 ≤ 1000) :
    Pk (FT b1 b2) 0 0 0 0 0 0 1 b1 b2 2 2 2 cap (Z.map pf) := by
  have hq : ∀ (k : Nat) (q : Ph), (Z.map pf)[k]? = some q → ∃ z, Z[k]? = some z ∧ q = pf z := fun k q h => by
    rw [List.getElem?_map] at h
    cases hh : Z[k]? with
    | none => rw [hh] at h; cases h
    | some z => rw [hh] at h; exact ⟨z, rfl, by simpa using h.symm⟩
  refine ⟨fun w w' h hb => h.below hb, bv0, fun w h => Trav.validate_yes 1 b1 b2 2 2 2 [0, 0] [0, 0] w h, by simpa using n1, by simpa using n9, c0, c9, fun k q h => ?_, fun k q h w ht => ?_⟩
  · obtain ⟨z, h1, rfl⟩ := hq k q h
    obtain ⟨a, b, c⟩ := hz k z h1
    exact ⟨pv0, a, b, by show z.2 ≤ _; omega, (show (1 : Int) ≤ 1 by decide), (show (1 : Int) ≤ 100 by decide)⟩
  · obtain ⟨z, h1, rfl⟩ := hq k q h
    refine (Bound.interval_ok 1 b1 b2 2 2 2 [0, 0] [0, 0] 0 0 0 0 0 0 0 0 0 0 0 w ht bv0 pv0 ?_ ?_ ?_).mono fun e w' ⟨he, hb⟩ => ⟨⟨_, _, he⟩, hb⟩
    · rw [far0, ce0]; decide
    · rw [near0, rt0]; decide
    · rw [far0, ce0]; decide
theorem flat_zone (b1 b2 : Nat) (Z : List (Int × Int)) (hz : ∀ (k : Nat) (q : Int × Int), Z[k]? = some q → 0 ≤ q.1 ∧ q.1 ≤ q.2 ∧ q.2 ≤ 1000) (k : Nat) (q : Ph) (h : (Z.map pf)[k]? = some q) (w : World) (ht : FT b1 b2 w) :
    Calls Try.prog 44 #[.agg #[.int .i64 1, .slice (some ⟨b1, 0, none⟩) 2 2, .slice (some ⟨b2, 0, none⟩) 2 2], .agg #[.int .i64 0, .int .i64 0, .int .i64 0, .int .i64 0, .int .i64 0, .int .i64 0], .agg #[.int .i64 q.x, .int .i64 q.y, .int .i64 q.z, .int .i64 q.E, .int .i64 q.L, .int .i64 q.W]] w fun r w' => r = .returned (.tuple #[.agg #[.int .i64 (q.E, q.L).1, .int .i64 (q.E, q.L).2], .int .i64 0]) ∧ Below w.heap.size w w' := by
  rw [List.getElem?_map] at h
  cases hh : Z[k]? with
  | none => rw [hh] at h; cases h
  | some z =>
    rw [hh] at h
    obtain rfl : pf z = q := by simpa using h
    obtain ⟨a, b, c⟩ := hz k z hh
    have := Bound.zone_ok 1 b1 b2 2 2 2 [0, 0] [0, 0] 0 0 0 0 0 0 0 0 0 z.1 z.2 1 0 0 w ht bv0 ⟨pv0, a, b, by omega, by decide, by decide⟩ (by rw [far0, ce0]; decide) (by rw [near0, rt0]; decide) (by rw [far0, ce0]; decide) (by decide) (by decide) (by decide)
    simpa [pf] using this
def Za : List (Int × Int) := [(10, 20), (15, 30)]
def Zb : List (Int × Int) := [(0, 0), (0, 0), (100, 100)]
theorem za_bd : ∀ (k : Nat) (q : Int × Int), Za[k]? = some q → 0 ≤ q.1 ∧ q.1 ≤ q.2 ∧ q.2 ≤ 1000 := fun k q h => by
  rcases k with _ | _ | k <;> simp [Za] at h <;> subst h <;> decide
theorem zb_bd : ∀ (k : Nat) (q : Int × Int), Zb[k]? = some q → 0 ≤ q.1 ∧ q.1 ≤ q.2 ∧ q.2 ≤ 1000 := fun k q h => by
  rcases k with _ | _ | _ | k <;> simp [Zb] at h <;> subst h <;> decide
theorem cs_flat (cap : Int) (c0 : 1 ≤ cap) (c9 : cap ≤ 2000) (Z : List (Int × Int)) (n1 : 1 ≤ Z.length) (n9 : Z.length ≤ 64) (hz : ∀ (k : Nat) (q : Int × Int), Z[k]? = some q → 0 ≤ q.1 ∧ q.1 ≤ q.2 ∧ q.2 ≤ 1000) : Cs cap (Z.map pf) Z := by
  refine ⟨c0, c9, by simpa using n1, by simpa using n9, by simp, fun k q h => ?_, fun k q h => ?_⟩
  · rw [List.getElem?_map] at h
    cases hh : Z[k]? with
    | none => rw [hh] at h; cases h
    | some z => rw [hh] at h; obtain rfl : pf z = q := (by simpa using h); exact ⟨(show (0 : Int) ≤ 1 by decide), (show (1 : Int) ≤ 100 by decide)⟩
  · have := hz k q h; omega
theorem best_a : best 10 (wt (Za.map pf)) (zn Za) 2 = (15, 0) := by decide +kernel
theorem best_b : best 10 (wt (Zb.map pf)) (zn Zb) 3 = (0, 10) := by decide +kernel
theorem map_back (Z : List (Int × Int)) : (Z.map pf).map (fun q => (q.E, q.L)) = Z := by
  rw [List.map_map]; exact List.map_id'' (fun z => rfl) Z
theorem znR_lit2 {w : World} {b : Nat} (h : w.heap[b]? = some (.cells #[.int .i64 10, .int .i64 20, .int .i64 15, .int .i64 30] 43 (0, 0))) : ZnR w b Za :=
  ⟨(Array.getElem?_eq_some_iff.1 h).1, fun k p hp => by
    rcases k with _ | _ | k <;> simp [Za] at hp <;> subst hp
    · exact ⟨cell_of_row w b 0 _ _ _ h, cell_of_row w b 1 _ _ _ h⟩
    · exact ⟨cell_of_row w b 2 _ _ _ h, cell_of_row w b 3 _ _ _ h⟩⟩
theorem znR_lit3 {w : World} {b : Nat} (h : w.heap[b]? = some (.cells #[.int .i64 0, .int .i64 0, .int .i64 0, .int .i64 0, .int .i64 100, .int .i64 100] 43 (0, 0))) : ZnR w b Zb :=
  ⟨(Array.getElem?_eq_some_iff.1 h).1, fun k p hp => by
    rcases k with _ | _ | _ | k <;> simp [Zb] at hp <;> subst hp
    · exact ⟨cell_of_row w b 0 _ _ _ h, cell_of_row w b 1 _ _ _ h⟩
    · exact ⟨cell_of_row w b 2 _ _ _ h, cell_of_row w b 3 _ _ _ h⟩
    · exact ⟨cell_of_row w b 4 _ _ _ h, cell_of_row w b 5 _ _ _ h⟩⟩
theorem own_slice {w : World} {B : Nat} {v : Value} {l : List Ph} (h : OwnP w B v l) (h0 : 0 < l.length) : ∃ g c, v = .slice (some ⟨g, 0, none⟩) l.length c ∧ PhR w g l ∧ l.length ≤ c ∧ c ≤ maxLen := by
  rcases own_shape h with ⟨_, h1⟩ | ⟨g, c, rfl, h2, h3, h4, h5⟩
  · omega
  · exact ⟨g, c, rfl, (phR_of_own h).1, h2, h3⟩
set_option maxRecDepth 100000 in
set_option maxHeartbeats 8000000 in
theorem awake_any (w : World) : Calls Try.prog 25 #[] w fun e w' => e = .returned (.bool true) ∧ Below w.heap.size w w' := by
  obtain ⟨w1, hw1⟩ : ∃ w1, w1 = (w.alloc (.cells #[.int .i64 10, .int .i64 20, .int .i64 15, .int .i64 30] 43)).alloc (.cells #[.int .i64 0, .int .i64 0, .int .i64 0, .int .i64 0, .int .i64 100, .int .i64 100] 43) := ⟨_, rfl⟩
  have e1 : (w.alloc (.cells #[.int .i64 10, .int .i64 20, .int .i64 15, .int .i64 30] 43)).heap.size = w.heap.size + 1 := by simp
  have W1 := Lib.hid (show Below w.heap.size w w1 by rw [hw1]; exact (new_block _).alloc (by simp) _)
  have A := Lib.hid (show w1.heap[w.heap.size]? = some (.cells #[.int .i64 10, .int .i64 20, .int .i64 15, .int .i64 30] 43 (0, 0)) by rw [hw1]; exact (heap_alloc_old _ _ (by simp)).trans (heap_alloc_new w _))
  have B := Lib.hid (show w1.heap[w.heap.size + 1]? = some (.cells #[.int .i64 0, .int .i64 0, .int .i64 0, .int .i64 0, .int .i64 100, .int .i64 100] 43 (0, 0)) by rw [hw1, ← e1]; exact heap_alloc_new _ _)
  go_enter Try.func25, Try.ntmps25
  go_upto_region 2 with fail
  clear e1
  rw [← hw1]
  clear hw1
  go_wp2_with fail
  refine (flat_any (n := 2) (cz := 2) 10 (znR_lit2 A.out) rfl (by decide) (by decide)).mono ?_
  rintro r w2 ⟨⟨b1, b2, v, rfl, tv, ov⟩, hb2⟩
  obtain ⟨gp, cp, rfl, pr, hc, hm⟩ := own_slice ov (by decide)
  replace A := Lib.hid (hb hb2 A.out)
  replace B := Lib.hid (hb hb2 B.out)
  replace W1 := Lib.hid (Buf.then_ W1.out hb2)
  replace tv := Lib.hid tv
  replace pr := Lib.hid pr
  have hc' : 2 ≤ cp := hc
  clear hb2 ov hc hm
  rw [show (Za.map pf).length = 2 from rfl]
  go_wp2_with fail
  refine (flat_any (n := 3) (cz := 3) 10 (znR_lit3 B.out) rfl (by decide) (by decide)).mono ?_
  rintro r w3 ⟨⟨b3, b4, v, rfl, tv2, ov⟩, hb2⟩
  obtain ⟨gq, cq, rfl, pr2, hc, hm⟩ := own_slice ov (by decide)
  replace A := Lib.hid (hb hb2 A.out)
  replace B := Lib.hid (hb hb2 B.out)
  replace W1 := Lib.hid (Buf.then_ W1.out hb2)
  replace tv := Lib.hid (tv.out.below hb2)
  replace pr := Lib.hid (pr.out.below hb2)
  replace pr2 := Lib.hid pr2
  have hc2' : 3 ≤ cq := hc
  clear hb2 ov hc hm tv2
  rw [show (Zb.map pf).length = 3 from rfl]
  obtain ⟨w5, hw5⟩ : ∃ w5, w5 = (w3.alloc (.cells #[.int .i64 0, .int .i64 0, .int .i64 0, .int .i64 0, .int .i64 0, .int .i64 0, .int .i64 1, .slice (some ⟨b1, 0, none⟩) 2 2, .slice (some ⟨b2, 0, none⟩) 2 2, .slice (some ⟨gp, 0, none⟩) 2 cp, .int .i64 10] 33)).alloc (.cells #[.int .i64 0, .int .i64 0, .int .i64 0, .int .i64 0, .int .i64 0, .int .i64 0, .int .i64 1, .slice (some ⟨b3, 0, none⟩) 2 2, .slice (some ⟨b4, 0, none⟩) 2 2, .slice (some ⟨gq, 0, none⟩) 3 cq, .int .i64 10] 33) := ⟨_, rfl⟩
  have e1 : (w3.alloc (.cells #[.int .i64 0, .int .i64 0, .int .i64 0, .int .i64 0, .int .i64 0, .int .i64 0, .int .i64 1, .slice (some ⟨b1, 0, none⟩) 2 2, .slice (some ⟨b2, 0, none⟩) 2 2, .slice (some ⟨gp, 0, none⟩) 2 cp, .int .i64 10] 33)).heap.size = w3.heap.size + 1 := by simp
  have Y5 := Lib.hid (show Below w3.heap.size w3 w5 by rw [hw5]; exact (new_block _).alloc (by simp) _)
  have P := Lib.hid (show w5.heap[w3.heap.size]? = some (.cells #[.int .i64 0, .int .i64 0, .int .i64 0, .int .i64 0, .int .i64 0, .int .i64 0, .int .i64 1, .slice (some ⟨b1, 0, none⟩) 2 2, .slice (some ⟨b2, 0, none⟩) 2 2, .slice (some ⟨gp, 0, none⟩) 2 cp, .int .i64 10] 33 (0, 0)) by rw [hw5]; exact (heap_alloc_old _ _ (by simp)).trans (heap_alloc_new w3 _))
  have Q := Lib.hid (show w5.heap[w3.heap.size + 1]? = some (.cells #[.int .i64 0, .int .i64 0, .int .i64 0, .int .i64 0, .int .i64 0, .int .i64 0, .int .i64 1, .slice (some ⟨b3, 0, none⟩) 2 2, .slice (some ⟨b4, 0, none⟩) 2 2, .slice (some ⟨gq, 0, none⟩) 3 cq, .int .i64 10] 33 (0, 0)) by rw [hw5, ← e1]; exact heap_alloc_new _ _)
  go_upto_region 3 with fail
  clear e1
  rw [← hw5]
  clear hw5
  replace A := Lib.hid (hb Y5.out A.out)
  replace B := Lib.hid (hb Y5.out B.out)
  replace W1 := Lib.hid (Buf.then_ W1.out Y5.out)
  replace tv := Lib.hid (tv.out.below Y5.out)
  replace pr := Lib.hid (pr.out.below Y5.out)
  replace pr2 := Lib.hid (pr2.out.below Y5.out)
  clear Y5
  generalize w3.heap.size = bp at *
  have BA := best_any (w := w5) (g := gp) (gz := w.heap.size) (cz := 2) (c := cp) 0 0 0 0 0 0 1 (some ⟨b1, 0, none⟩) (some ⟨b2, 0, none⟩) 2 2 2 2 10 (cs_flat 10 (by decide) (by decide) Za (by decide) (by decide) za_bd) pr.out (znR_lit2 A.out) hc' (by decide) (by decide) 2 rfl
  rw [best_a] at BA
  replace BA := Lib.hid BA
  obtain ⟨e0, e1, e2, e3, e4, e5, e6, e7, e8, e9, e10⟩ := c11 P.out
  go_wp2_with fail
  refine BA.out.mono ?_
  rintro r w6 ⟨rfl, hb2⟩
  replace A := Lib.hid (hb hb2 A.out)
  replace B := Lib.hid (hb hb2 B.out)
  replace P := Lib.hid (hb hb2 P.out)
  replace Q := Lib.hid (hb hb2 Q.out)
  replace W1 := Lib.hid (Buf.then_ W1.out hb2)
  replace tv := Lib.hid (tv.out.below hb2)
  replace pr := Lib.hid (pr.out.below hb2)
  replace pr2 := Lib.hid (pr2.out.below hb2)
  clear hb2 BA e0 e1 e2 e3 e4 e5 e6 e7 e8 e9 e10
  have BA := best_any (w := w6) (g := gq) (gz := w.heap.size + 1) (cz := 3) (c := cq) 0 0 0 0 0 0 1 (some ⟨b3, 0, none⟩) (some ⟨b4, 0, none⟩) 2 2 2 2 10 (cs_flat 10 (by decide) (by decide) Zb (by decide) (by decide) zb_bd) pr2.out (znR_lit3 B.out) hc2' (by decide) (by decide) 3 rfl
  rw [best_b] at BA
  replace BA := Lib.hid BA
  obtain ⟨e0, e1, e2, e3, e4, e5, e6, e7, e8, e9, e10⟩ := c11 Q.out
  go_wp2_with fail
  refine BA.out.mono ?_
  rintro r w7 ⟨rfl, hb2⟩
  replace A := Lib.hid (hb hb2 A.out)
  replace P := Lib.hid (hb hb2 P.out)
  replace W1 := Lib.hid (Buf.then_ W1.out hb2)
  replace tv := Lib.hid (tv.out.below hb2)
  replace pr := Lib.hid (pr.out.below hb2)
  clear hb2 BA e0 e1 e2 e3 e4 e5 e6 e7 e8 e9 e10 B Q pr2
  have AA := at_any (w := w7) (c := cp) (n := 2) (flat_pk b1 b2 10 (by decide) (by decide) Za (by decide) (by decide) za_bd) tv.out pr.out rfl hc' 0 0 0 (fun q => (q.E, q.L)) bv0 (by decide) (fun k q h w ht => flat_zone b1 b2 Za za_bd k q h w ht) (by rw [map_back]; exact cs_flat 10 (by decide) (by decide) Za (by decide) (by decide) za_bd)
  rw [map_back, best_a] at AA
  replace AA := Lib.hid AA
  obtain ⟨e0, e1, e2, e3, e4, e5, e6, e7, e8, e9, e10⟩ := c11 P.out
  go_wp2_with fail
  refine AA.out.mono ?_
  rintro r w8 ⟨rfl, hb2⟩
  replace A := Lib.hid (hb hb2 A.out)
  replace W1 := Lib.hid (Buf.then_ W1.out hb2)
  clear hb2 AA e0 e1 e2 e3 e4 e5 e6 e7 e8 e9 e10 P pr tv
  have a0 := cell_of_row w8 w.heap.size 0 _ _ _ A.out
  have a1 := cell_of_row w8 w.heap.size 1 _ _ _ A.out
  simp only [List.getElem?_toArray, List.getElem?_cons_zero, List.getElem?_cons_succ] at a0 a1
  have RS := res_any 10 20 25 (by decide) (by decide) (by decide) (by decide) (by decide) (by decide) w8
  rw [show res (10, 20) 25 = 5 by decide] at RS
  replace RS := Lib.hid RS
  go_wp2_with fail
  refine RS.out.mono ?_
  rintro r w9 ⟨rfl, hb2⟩
  replace W1 := Lib.hid (Buf.then_ W1.out hb2)
  clear hb2 RS a0 a1 A
  go_wp2_with fail
  go_ret
  exact ⟨rfl, W1.out⟩
end Mis
end Go.Proofs.Ytmmikihkfpkapaa
