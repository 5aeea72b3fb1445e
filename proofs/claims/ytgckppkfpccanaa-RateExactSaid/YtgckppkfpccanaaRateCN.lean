/- Contracts of Number and Slower. -/
import Derived.Test.YtgckppkfpccanaaRateBN
namespace Go.Proofs.Ytgckppkfpccanaa
open Go.RowKit Dice
namespace Rate
/-- The number of a time. -/
def numF (n d t : Int) : Int := t / (d * 1000000) * n + (2 * (t % (d * 1000000)) * n + d * 1000000) / (2 * (d * 1000000))
theorem numF_eq (n d t : Int) (d1 : 1 ≤ d) : numF n d t = (2 * (t * n) + d * 1000000) / (2 * (d * 1000000)) := by
  unfold numF
  have hc : 0 < d * 1000000 := by omega
  generalize d * 1000000 = c at *
  have e : 2 * (t * n) + c = (2 * (t % c) * n + c) + (2 * c) * (t / c * n) := by
    have h1 := Int.mul_ediv_add_emod t c
    have h2 : t * n = (c * (t / c) + t % c) * n := by rw [h1]
    rw [h2, Int.add_mul, Int.mul_add, Int.mul_assoc c, Int.mul_assoc 2 (t % c), ← Int.mul_assoc 2 c]
    omega
  rw [e, Int.add_mul_ediv_left _ _ (by omega), Int.add_comm]
theorem number_ok (n d t : Int) (h : RV n d) (w : World) (t0 : 0 ≤ t) (t1 : t ≤ 18014398509481984) :
    Calls Try.prog 22 #[.agg #[.int .i64 n, .int .i64 d], .int .i64 t] w fun e w' => e = .returned (.tuple #[.int .i64 (numF n d t), .int .i64 0]) ∧ Below w.heap.size w w' := by
  obtain ⟨n1, n2, d1, d2, _⟩ := id h
  have hc : 0 < d * 1000000 := by omega
  have q0 : 0 ≤ t / (d * 1000000) := Int.ediv_nonneg t0 (by omega)
  have q1 : t / (d * 1000000) ≤ 18014398510 := Int.ediv_le_of_le_mul hc (by omega)
  have r0 : 0 ≤ t % (d * 1000000) := Int.emod_nonneg _ (by omega)
  have r1 : t % (d * 1000000) < d * 1000000 := Int.emod_lt_of_pos _ hc
  have a0 : 0 ≤ t / (d * 1000000) * n := Int.mul_nonneg q0 (by omega)
  have a1 : t / (d * 1000000) * n ≤ 18014398510 * 4096 := Int.mul_le_mul q1 n2 (by omega) (by omega)
  have b0 : 0 ≤ 2 * (t % (d * 1000000)) * n := Int.mul_nonneg (by omega) (by omega)
  have b1 : 2 * (t % (d * 1000000)) * n ≤ 8192000000 * 4096 := Int.mul_le_mul (by omega) n2 (by omega) (by omega)
  have t0 : 0 ≤ (2 * (t % (d * 1000000)) * n + d * 1000000) / (2 * (d * 1000000)) := Int.ediv_nonneg (by omega) (by omega)
  have t1 : (2 * (t % (d * 1000000)) * n + d * 1000000) / (2 * (d * 1000000)) ≤ 33558528000000 := Int.le_trans (Int.ediv_le_self _ (by omega)) (by omega)
  have hq : Hid (numF n d t = t / (d * 1000000) * n + (2 * (t % (d * 1000000)) * n + d * 1000000) / (2 * (d * 1000000))) := Lib.hid rfl
  rw [hq.out]
  clear hq
  go_enter Try.func22, Try.ntmps22
  go_wp2_with (first | (go_at_call 11; refine (valid_yes n d h _).mono ?_; rintro e w1 ⟨rfl, hb⟩; have hW : Below (w.heap.size + 1) (w.alloc (.cells #[.int .i64 n, .int .i64 d] 24)) w1 := (by simpa using hb); clear hb; obtain ⟨c0, c1⟩ := boxed hW) | (go_at_call 30; refine (within_yes _ _ _ _ (by omega) (by omega)).mono ?_; rintro e w' ⟨rfl, m, rfl⟩) | (go_at_call 38; refine (cycle_any n d _ d1 d2).mono ?_; rintro e w2 ⟨rfl, hb⟩; replace hW := boxed_next hW (Buf.of_drewN hb); clear hb; obtain ⟨c2, c3⟩ := boxed hW))
  go_quiet (fail)
  go_wp2
  go_ret2
  exact ⟨rfl, boxed_out (Buf.below_drewN hW _)⟩
/-- Two boxes of pairs, one behind the other, in every later world. -/
theorem boxed2 {w : World} {x y u v : Value} {t t2 : TypeId} {w' : World} (h : Below (w.heap.size + 2) ((w.alloc (.cells #[x, y] t)).alloc (.cells #[u, v] t2)) w') :
    (w'.cell? ⟨w.heap.size, 0, none⟩ = some x ∧ w'.cell? ⟨w.heap.size, 1, none⟩ = some y) ∧ w'.heap[w.heap.size + 1]? = some (.cells #[u, v] t2 (0, 0)) := by
  have h1 : w'.heap[w.heap.size]? = some (.cells #[x, y] t (0, 0)) := by
    rw [h.block w.heap.size (by omega), heap_alloc_old (h := by simp)]
    exact heap_alloc_new _ _
  refine ⟨⟨cell_of_row _ _ 0 _ _ _ h1, cell_of_row _ _ 1 _ _ _ h1⟩, ?_⟩
  rw [h.block (w.heap.size + 1) (by omega)]
  have e1 : (w.alloc (.cells #[x, y] t)).heap.size = w.heap.size + 1 := by simp
  rw [← e1]
  exact heap_alloc_new _ _
theorem store2 {w : World} {x y u v : Value} {t t2 : TypeId} {w2 : World} (h : Below (w.heap.size + 2) ((w.alloc (.cells #[x, y] t)).alloc (.cells #[u, v] t2)) w2) (p q : Value) :
    w2.cell? ⟨w.heap.size + 1, 0, none⟩ = some u ∧ w2.frozen? ⟨w.heap.size + 1, 0, none⟩ = false ∧ (w2.setCell ⟨w.heap.size + 1, 0, none⟩ p).cell? ⟨w.heap.size + 1, 1, none⟩ = some v ∧ (w2.setCell ⟨w.heap.size + 1, 0, none⟩ p).frozen? ⟨w.heap.size + 1, 1, none⟩ = false ∧ ((w2.setCell ⟨w.heap.size + 1, 0, none⟩ p).setCell ⟨w.heap.size + 1, 1, none⟩ q).heap[w.heap.size + 1]? = some (.cells #[p, q] t2 (0, 0)) := by
  have h0 := (boxed2 h).2
  have h1 : (w2.setCell ⟨w.heap.size + 1, 0, none⟩ p).heap[w.heap.size + 1]? = some (.cells #[p, v] t2 (0, 0)) := (heap_setCell_same _ _ 0 _ _ p h0).trans rfl
  have h2 : ((w2.setCell ⟨w.heap.size + 1, 0, none⟩ p).setCell ⟨w.heap.size + 1, 1, none⟩ q).heap[w.heap.size + 1]? = some (.cells #[p, q] t2 (0, 0)) := (heap_setCell_same _ _ 1 _ _ q h1).trans rfl
  exact ⟨cell_of_row _ _ 0 _ _ _ h0, frozen_of_row _ _ 0 _ _ h0, cell_of_row _ _ 1 _ _ _ h1, frozen_of_row _ _ 1 _ _ h1, h2⟩
theorem results_row_tmp {P : Program} {fn : Func} {p u : Tmp} {ty : TypeId} (h : fn.results = #[.cell p ty, .tmp u]) (tmps : Array Value) (w : World) (g : Nat) (t : TypeId) (cs : Array Value) (fr : Nat × Nat) (d : TypeDesc)
    (hp : tmps.getD p undef = .pointer (some ⟨g, 0, none⟩)) (hg : w.heap[g]? = some (.cells cs t fr))
    (hu : P.underlying ty = some d) (hd : (match d with | .struct _ | .array _ _ => true | _ => false) = true) (hi : (P.info? ty).map (·.size) = some cs.size) :
    (results fn tmps).run P w = .ok (.tuple #[.agg cs, tmps.getD u undef]) w := by
  have hp' : tmps[p]?.getD undef = .pointer (some ⟨g, 0, none⟩) := by simpa using hp
  simp [results, h, hp', asAddr, run_loadVar_row w g t ty cs fr d hg hu hd hi]
theorem boxed2_next {w : World} {x y u v : Value} {t t2 : TypeId} {w1 w2 : World} (h : Below (w.heap.size + 2) ((w.alloc (.cells #[x, y] t)).alloc (.cells #[u, v] t2)) w1) (h2 : Below w1.heap.size w1 w2) : Below (w.heap.size + 2) ((w.alloc (.cells #[x, y] t)).alloc (.cells #[u, v] t2)) w2 :=
  h.trans (h2.mono (by have := h.size; simp at this ⊢; omega))
theorem boxed2_out {w : World} {x y u v : Value} {t t2 : TypeId} {w1 : World} (h : Below (w.heap.size + 2) ((w.alloc (.cells #[x, y] t)).alloc (.cells #[u, v] t2)) w1) : Below w.heap.size w w1 :=
  (((Below.refl _ _).alloc (Nat.le_refl _) _).alloc (by simp) _).trans (h.mono (by simp))
/-- What Slower does: g is the divisor. -/
theorem valid_den (n d : Int) (w : World) (n1 : 1 ≤ n) (n2 : n ≤ 4096) (d1 : 4096 < d) :
    Calls Try.prog 11 #[.agg #[.int .i64 n, .int .i64 d]] w fun e w' => e = .returned (.bool false) ∧ Below w.heap.size w w' := by
  go_enter Try.func11, Try.ntmps11
  go_wp2_with (first | (go_at_call 30; refine (within_yes _ _ _ _ (by omega) (by omega)).mono ?_; rintro e w' ⟨rfl, m, rfl⟩) | (go_at_call 30; refine (within_no _ _ _ _ (by omega)).mono ?_; rintro e w' ⟨rfl, m, rfl⟩))
  go_ret
  exact ⟨rfl, Buf.below_drewN ((Below.refl _ _).alloc (Nat.le_refl _) _) _⟩
set_option linter.unusedVariables false in
set_option maxRecDepth 100000 in
theorem slower_yes (n d m g A B : Int) (h : RV n d) (w : World) (m1 : 1 ≤ m) (m2 : m ≤ 64)
    (hg : 1 ≤ g) (hA1 : 1 ≤ n / g) (hA2 : n / g ≤ 4096) (hB1 : 1 ≤ d * m / g) (hB2 : d * m / g ≤ 4096 * 64) (hA : Hid (n / g = A)) (hBq : Hid (d * m / g = B)) (hco : RV A B)
    (G : ∀ w, Calls Try.prog 31 #[.int .i64 n, .int .i64 (d * m)] w fun e w' => e = .returned (.int .i64 g) ∧ ∃ m, w' = w.drewN m) :
    Calls Try.prog 24 #[.agg #[.int .i64 n, .int .i64 d], .int .i64 m] w fun e w' => e = .returned (.tuple #[.agg #[.int .i64 A, .int .i64 B], .int .i64 0]) ∧ Below w.heap.size w w' := by
  obtain ⟨n1, n2, d1, d2, _⟩ := id h
  have dm0 : 1 * 1 ≤ d * m := Int.mul_le_mul d1 m1 (by omega) (by omega)
  have dm1 : d * m ≤ 4096 * 64 := Int.mul_le_mul d2 m2 (by omega) (by omega)
  have G := Lib.hid G
  go_enter Try.func24, Try.ntmps24
  go_wp2_with (first | (go_at_call 11; refine (valid_yes n d h _).mono ?_; rintro e w1 ⟨rfl, hb⟩; have hW : Below (w.heap.size + 2) ((w.alloc (.cells #[.int .i64 n, .int .i64 d] 24)).alloc (.cells #[.int .i64 0, .int .i64 0] 24)) w1 := (by simpa using hb); clear hb; obtain ⟨⟨c0, c1⟩, hB⟩ := boxed2 hW; replace hB := Lib.hid hB) | (go_at_call 30; refine (within_yes _ _ _ _ (by omega) (by omega)).mono ?_; rintro e w' ⟨rfl, mm, rfl⟩) | (go_at_call 31; with_reducible refine (G.out _).mono ?_; rintro e w' ⟨rfl, m2, rfl⟩))
  have hlt : w.heap.size < w1.heap.size := World.block_lt_of_cell? w1 _ c1
  have c0' : ∀ k, ((w1.drewN k).alloc (.cells #[.int .i64 0, .int .i64 0] 24)).cell? ⟨w.heap.size, 0, none⟩ = some (.int .i64 n) := fun k =>
    (World.cell?_of_block (w := w1.drewN k) (a := ⟨w.heap.size, 0, none⟩) (heap_alloc_old (w1.drewN k) _ hlt)).trans c0
  have c1' : ∀ k, ((w1.drewN k).alloc (.cells #[.int .i64 0, .int .i64 0] 24)).cell? ⟨w.heap.size, 1, none⟩ = some (.int .i64 d) := fun k =>
    (World.cell?_of_block (w := w1.drewN k) (a := ⟨w.heap.size, 1, none⟩) (heap_alloc_old (w1.drewN k) _ hlt)).trans c1
  have hn : ∀ k, ((w1.drewN k).alloc (.cells #[.int .i64 0, .int .i64 0] 24)).heap[w1.heap.size]? = some (.cells #[.int .i64 0, .int .i64 0] 24 (0, 0)) := fun k => heap_alloc_new (w1.drewN k) _
  have hn1 : ∀ k v, (((w1.drewN k).alloc (.cells #[.int .i64 0, .int .i64 0] 24)).setCell ⟨w1.heap.size, 0, none⟩ v).heap[w1.heap.size]? = some (.cells #[v, .int .i64 0] 24 (0, 0)) := fun k v => (heap_setCell_same _ w1.heap.size 0 _ _ v (hn k)).trans rfl
  have n0' : ∀ k, ((w1.drewN k).alloc (.cells #[.int .i64 0, .int .i64 0] 24)).cell? ⟨w1.heap.size, 0, none⟩ = some (.int .i64 0) := fun k => cell_of_row _ _ 0 _ _ _ (hn k)
  have f0' : ∀ k, ((w1.drewN k).alloc (.cells #[.int .i64 0, .int .i64 0] 24)).frozen? ⟨w1.heap.size, 0, none⟩ = false := fun k => frozen_of_row _ _ 0 _ _ (hn k)
  have n1' : ∀ k v, (((w1.drewN k).alloc (.cells #[.int .i64 0, .int .i64 0] 24)).setCell ⟨w1.heap.size, 0, none⟩ v).cell? ⟨w1.heap.size, 1, none⟩ = some (.int .i64 0) := fun k v => cell_of_row _ _ 1 _ _ _ (hn1 k v)
  have f1' : ∀ k v, (((w1.drewN k).alloc (.cells #[.int .i64 0, .int .i64 0] 24)).setCell ⟨w1.heap.size, 0, none⟩ v).frozen? ⟨w1.heap.size, 1, none⟩ = false := fun k v => frozen_of_row _ _ 1 _ _ (hn1 k v)
  replace hn := Lib.hid hn
  replace hn1 := Lib.hid hn1
  go_region
  have hX1 : ∀ k u v, ((((w1.drewN k).alloc (.cells #[.int .i64 0, .int .i64 0] 24)).setCell ⟨w1.heap.size, 0, none⟩ u).setCell ⟨w1.heap.size, 1, none⟩ v).heap[w1.heap.size]? = some (.cells #[u, v] 24 (0, 0)) := fun k u v => (heap_setCell_same _ w1.heap.size 1 _ _ v (hn1.out k u)).trans rfl
  have hX2 : ∀ k u v, Below w1.heap.size w1 ((((w1.drewN k).alloc (.cells #[.int .i64 0, .int .i64 0] 24)).setCell ⟨w1.heap.size, 0, none⟩ u).setCell ⟨w1.heap.size, 1, none⟩ v) := fun k u v => by
    refine Below.setCell (Below.setCell (Below.alloc (Buf.below_drewN (Below.refl _ _) k) ?_ _) ?_ _) ?_ _ <;> exact Nat.le_refl _
  specialize hX1 (mm + m2 + 1) (.int .i64 (n / g)) (.int .i64 (d * m / g))
  specialize hX2 (mm + m2 + 1) (.int .i64 (n / g)) (.int .i64 (d * m / g))
  rw [hA.out, hBq.out] at hX1 hX2 ⊢
  rw [hA.out] at hA1 hA2
  rw [hBq.out] at hB1 hB2
  clear c0' c1' n0' f0' n1' f1' hn hn1 c0 c1 G
  generalize (((w1.drewN (mm + m2 + 1)).alloc (.cells #[.int .i64 0, .int .i64 0] 24)).setCell ⟨w1.heap.size, 0, none⟩ (.int .i64 A)).setCell ⟨w1.heap.size, 1, none⟩ (.int .i64 B) = wx at *
  have x0 : wx.cell? ⟨w1.heap.size, 0, none⟩ = some (.int .i64 A) := cell_of_row _ _ 0 _ _ _ hX1
  have x1 : wx.cell? ⟨w1.heap.size, 1, none⟩ = some (.int .i64 B) := cell_of_row _ _ 1 _ _ _ hX1
  have hltx : w1.heap.size < wx.heap.size := World.block_lt_of_cell? wx _ x0
  replace hX1 := Lib.hid hX1
  have hW2 := boxed2_next hW hX2
  have V := Lib.hid fun w => valid_yes A B hco w
  go_wp2_with fail
  with_reducible refine (V.out _).mono ?_
  rintro e w2 ⟨rfl, hb⟩
  have hW3 := boxed2_next hW2 hb
  have y0 : w2.cell? ⟨w1.heap.size, 0, none⟩ = some (.int .i64 A) := (hb.cell (p := ⟨w1.heap.size, 0, none⟩) hltx).trans x0
  have y1 : w2.cell? ⟨w1.heap.size, 1, none⟩ = some (.int .i64 B) := (hb.cell (p := ⟨w1.heap.size, 1, none⟩) hltx).trans x1
  obtain ⟨z0, z1, z2, z3, z4⟩ := store2 hW3 (.int .i64 A) (.int .i64 B)
  replace z4 := Lib.hid z4
  go_wp2
  refine bodyPost_ret (results_row_tmp rfl _ _ (w.heap.size + 1) _ _ _ _ rfl z4.out rfl (by rfl) rfl) rfl ⟨rfl, ?_⟩
  exact (boxed2_out hW3).trans (by refine Below.setCell (Below.setCell (Below.refl _ _) ?_ _) ?_ _ <;> simp)
set_option linter.unusedVariables false in
set_option maxRecDepth 100000 in
theorem slower_no (n d m g A B : Int) (h : RV n d) (w : World) (m1 : 1 ≤ m) (m2 : m ≤ 64)
    (hg : 1 ≤ g) (hA1 : 1 ≤ n / g) (hA2 : n / g ≤ 4096) (hB1 : 1 ≤ d * m / g) (hB2 : d * m / g ≤ 4096 * 64) (hA : Hid (n / g = A)) (hBq : Hid (d * m / g = B)) (hco : 4096 < B)
    (G : ∀ w, Calls Try.prog 31 #[.int .i64 n, .int .i64 (d * m)] w fun e w' => e = .returned (.int .i64 g) ∧ ∃ m, w' = w.drewN m) :
    Calls Try.prog 24 #[.agg #[.int .i64 n, .int .i64 d], .int .i64 m] w fun e w' => e = .returned (.tuple #[.agg #[.int .i64 0, .int .i64 0], .int .i64 8]) ∧ Below w.heap.size w w' := by
  obtain ⟨n1, n2, d1, d2, _⟩ := id h
  have dm0 : 1 * 1 ≤ d * m := Int.mul_le_mul d1 m1 (by omega) (by omega)
  have dm1 : d * m ≤ 4096 * 64 := Int.mul_le_mul d2 m2 (by omega) (by omega)
  have G := Lib.hid G
  go_enter Try.func24, Try.ntmps24
  go_wp2_with (first | (go_at_call 11; refine (valid_yes n d h _).mono ?_; rintro e w1 ⟨rfl, hb⟩; have hW : Below (w.heap.size + 2) ((w.alloc (.cells #[.int .i64 n, .int .i64 d] 24)).alloc (.cells #[.int .i64 0, .int .i64 0] 24)) w1 := (by simpa using hb); clear hb; obtain ⟨⟨c0, c1⟩, hB⟩ := boxed2 hW; replace hB := Lib.hid hB) | (go_at_call 30; refine (within_yes _ _ _ _ (by omega) (by omega)).mono ?_; rintro e w' ⟨rfl, mm, rfl⟩) | (go_at_call 31; with_reducible refine (G.out _).mono ?_; rintro e w' ⟨rfl, m2, rfl⟩))
  have hlt : w.heap.size < w1.heap.size := World.block_lt_of_cell? w1 _ c1
  have c0' : ∀ k, ((w1.drewN k).alloc (.cells #[.int .i64 0, .int .i64 0] 24)).cell? ⟨w.heap.size, 0, none⟩ = some (.int .i64 n) := fun k =>
    (World.cell?_of_block (w := w1.drewN k) (a := ⟨w.heap.size, 0, none⟩) (heap_alloc_old (w1.drewN k) _ hlt)).trans c0
  have c1' : ∀ k, ((w1.drewN k).alloc (.cells #[.int .i64 0, .int .i64 0] 24)).cell? ⟨w.heap.size, 1, none⟩ = some (.int .i64 d) := fun k =>
    (World.cell?_of_block (w := w1.drewN k) (a := ⟨w.heap.size, 1, none⟩) (heap_alloc_old (w1.drewN k) _ hlt)).trans c1
  have hn : ∀ k, ((w1.drewN k).alloc (.cells #[.int .i64 0, .int .i64 0] 24)).heap[w1.heap.size]? = some (.cells #[.int .i64 0, .int .i64 0] 24 (0, 0)) := fun k => heap_alloc_new (w1.drewN k) _
  have hn1 : ∀ k v, (((w1.drewN k).alloc (.cells #[.int .i64 0, .int .i64 0] 24)).setCell ⟨w1.heap.size, 0, none⟩ v).heap[w1.heap.size]? = some (.cells #[v, .int .i64 0] 24 (0, 0)) := fun k v => (heap_setCell_same _ w1.heap.size 0 _ _ v (hn k)).trans rfl
  have n0' : ∀ k, ((w1.drewN k).alloc (.cells #[.int .i64 0, .int .i64 0] 24)).cell? ⟨w1.heap.size, 0, none⟩ = some (.int .i64 0) := fun k => cell_of_row _ _ 0 _ _ _ (hn k)
  have f0' : ∀ k, ((w1.drewN k).alloc (.cells #[.int .i64 0, .int .i64 0] 24)).frozen? ⟨w1.heap.size, 0, none⟩ = false := fun k => frozen_of_row _ _ 0 _ _ (hn k)
  have n1' : ∀ k v, (((w1.drewN k).alloc (.cells #[.int .i64 0, .int .i64 0] 24)).setCell ⟨w1.heap.size, 0, none⟩ v).cell? ⟨w1.heap.size, 1, none⟩ = some (.int .i64 0) := fun k v => cell_of_row _ _ 1 _ _ _ (hn1 k v)
  have f1' : ∀ k v, (((w1.drewN k).alloc (.cells #[.int .i64 0, .int .i64 0] 24)).setCell ⟨w1.heap.size, 0, none⟩ v).frozen? ⟨w1.heap.size, 1, none⟩ = false := fun k v => frozen_of_row _ _ 1 _ _ (hn1 k v)
  replace hn := Lib.hid hn
  replace hn1 := Lib.hid hn1
  go_region
  have hX1 : ∀ k u v, ((((w1.drewN k).alloc (.cells #[.int .i64 0, .int .i64 0] 24)).setCell ⟨w1.heap.size, 0, none⟩ u).setCell ⟨w1.heap.size, 1, none⟩ v).heap[w1.heap.size]? = some (.cells #[u, v] 24 (0, 0)) := fun k u v => (heap_setCell_same _ w1.heap.size 1 _ _ v (hn1.out k u)).trans rfl
  have hX2 : ∀ k u v, Below w1.heap.size w1 ((((w1.drewN k).alloc (.cells #[.int .i64 0, .int .i64 0] 24)).setCell ⟨w1.heap.size, 0, none⟩ u).setCell ⟨w1.heap.size, 1, none⟩ v) := fun k u v => by
    refine Below.setCell (Below.setCell (Below.alloc (Buf.below_drewN (Below.refl _ _) k) ?_ _) ?_ _) ?_ _ <;> exact Nat.le_refl _
  specialize hX1 (mm + m2 + 1) (.int .i64 (n / g)) (.int .i64 (d * m / g))
  specialize hX2 (mm + m2 + 1) (.int .i64 (n / g)) (.int .i64 (d * m / g))
  rw [hA.out, hBq.out] at hX1 hX2 ⊢
  rw [hA.out] at hA1 hA2
  rw [hBq.out] at hB1 hB2
  clear c0' c1' n0' f0' n1' f1' hn hn1 c0 c1 G
  generalize (((w1.drewN (mm + m2 + 1)).alloc (.cells #[.int .i64 0, .int .i64 0] 24)).setCell ⟨w1.heap.size, 0, none⟩ (.int .i64 A)).setCell ⟨w1.heap.size, 1, none⟩ (.int .i64 B) = wx at *
  have x0 : wx.cell? ⟨w1.heap.size, 0, none⟩ = some (.int .i64 A) := cell_of_row _ _ 0 _ _ _ hX1
  have x1 : wx.cell? ⟨w1.heap.size, 1, none⟩ = some (.int .i64 B) := cell_of_row _ _ 1 _ _ _ hX1
  have hltx : w1.heap.size < wx.heap.size := World.block_lt_of_cell? wx _ x0
  replace hX1 := Lib.hid hX1
  have hW2 := boxed2_next hW hX2
  have V := Lib.hid fun w => valid_den A B w hA1 hA2 hco
  go_wp2_with fail
  with_reducible refine (V.out _).mono ?_
  rintro e w2 ⟨rfl, hb⟩
  have hW3 := boxed2_next hW2 hb
  have y0 : w2.cell? ⟨w1.heap.size, 0, none⟩ = some (.int .i64 A) := (hb.cell (p := ⟨w1.heap.size, 0, none⟩) hltx).trans x0
  have y1 : w2.cell? ⟨w1.heap.size, 1, none⟩ = some (.int .i64 B) := (hb.cell (p := ⟨w1.heap.size, 1, none⟩) hltx).trans x1
  obtain ⟨z0, z1, z2, z3, z4⟩ := store2 hW3 (.int .i64 0) (.int .i64 0)
  replace z4 := Lib.hid z4
  go_wp2
  refine bodyPost_ret (results_row_tmp rfl _ _ (w.heap.size + 1) _ _ _ _ rfl z4.out rfl (by rfl) rfl) rfl ⟨rfl, ?_⟩
  exact (boxed2_out hW3).trans (by refine Below.setCell (Below.setCell (Below.refl _ _) ?_ _) ?_ _ <;> simp)
end Rate
end Go.Proofs.Ytgckppkfpccanaa
