/- Level of an event. -/
import Derived.Test.YticjmblajloefaaRuleC
set_option linter.unusedVariables false
namespace Go.Proofs.Yticjmblajloefaa
open Go.RowKit Go.Shelf
attribute [local go_sem] Oper.semAt_some
namespace Ru
theorem evc {W : World} {b : Nat} {t : TypeId} {s0 s1 s2 s3 : ByteArray} {n1 n2 n3 n4 n5 : Int} {pa : Option Addr} {pn pc : Nat} {X Y Z T Mi Lo A1 A2 A3 A4 A5 A6 L H C : Int} (h : W.heap[b]? = some (.cells #[.string s0, .string s1, .string s2, .string s3, .int .i64 n1, .int .i64 n2, .int .i64 n3, .int .i64 n4, .int .i64 n5, .slice pa pn pc, .int .i64 X, .int .i64 Y, .int .i64 Z, .int .i64 T, .int .i64 Mi, .int .i64 Lo, .int .i64 A1, .int .i64 A2, .int .i64 A3, .int .i64 A4, .int .i64 A5, .int .i64 A6, .int .i64 L, .int .i64 H, .int .i64 C] t (0, 0))) :
    W.cell? ⟨b, 0, none⟩ = some (.string s0) ∧ W.cell? ⟨b, 1, none⟩ = some (.string s1) ∧ W.cell? ⟨b, 2, none⟩ = some (.string s2) ∧ W.cell? ⟨b, 3, none⟩ = some (.string s3) ∧ W.cell? ⟨b, 4, none⟩ = some (.int .i64 n1) ∧ W.cell? ⟨b, 5, none⟩ = some (.int .i64 n2) ∧ W.cell? ⟨b, 6, none⟩ = some (.int .i64 n3) ∧ W.cell? ⟨b, 7, none⟩ = some (.int .i64 n4) ∧ W.cell? ⟨b, 8, none⟩ = some (.int .i64 n5) ∧ W.cell? ⟨b, 9, none⟩ = some (.slice pa pn pc) ∧ W.cell? ⟨b, 10, none⟩ = some (.int .i64 X) ∧ W.cell? ⟨b, 11, none⟩ = some (.int .i64 Y) ∧ W.cell? ⟨b, 12, none⟩ = some (.int .i64 Z) ∧ W.cell? ⟨b, 13, none⟩ = some (.int .i64 T) ∧ W.cell? ⟨b, 14, none⟩ = some (.int .i64 Mi) ∧ W.cell? ⟨b, 15, none⟩ = some (.int .i64 Lo) ∧ W.cell? ⟨b, 16, none⟩ = some (.int .i64 A1) ∧ W.cell? ⟨b, 17, none⟩ = some (.int .i64 A2) ∧ W.cell? ⟨b, 18, none⟩ = some (.int .i64 A3) ∧ W.cell? ⟨b, 19, none⟩ = some (.int .i64 A4) ∧ W.cell? ⟨b, 20, none⟩ = some (.int .i64 A5) ∧ W.cell? ⟨b, 21, none⟩ = some (.int .i64 A6) ∧ W.cell? ⟨b, 22, none⟩ = some (.int .i64 L) ∧ W.cell? ⟨b, 23, none⟩ = some (.int .i64 H) ∧ W.cell? ⟨b, 24, none⟩ = some (.int .i64 C) :=
  ⟨cell_of_row W b 0 _ _ _ h, cell_of_row W b 1 _ _ _ h, cell_of_row W b 2 _ _ _ h, cell_of_row W b 3 _ _ _ h, cell_of_row W b 4 _ _ _ h, cell_of_row W b 5 _ _ _ h, cell_of_row W b 6 _ _ _ h, cell_of_row W b 7 _ _ _ h, cell_of_row W b 8 _ _ _ h, cell_of_row W b 9 _ _ _ h, cell_of_row W b 10 _ _ _ h, cell_of_row W b 11 _ _ _ h, cell_of_row W b 12 _ _ _ h, cell_of_row W b 13 _ _ _ h, cell_of_row W b 14 _ _ _ h, cell_of_row W b 15 _ _ _ h, cell_of_row W b 16 _ _ _ h, cell_of_row W b 17 _ _ _ h, cell_of_row W b 18 _ _ _ h, cell_of_row W b 19 _ _ _ h, cell_of_row W b 20 _ _ _ h, cell_of_row W b 21 _ _ _ h, cell_of_row W b 22 _ _ _ h, cell_of_row W b 23 _ _ _ h, cell_of_row W b 24 _ _ _ h⟩
theorem tri {W : World} {b : Nat} {t : TypeId} {x0 x1 x2 : Value} (h : W.heap[b]? = some (.cells #[x0, x1, x2] t (0, 0))) :
    W.cell? ⟨b, 0, none⟩ = some x0 ∧ W.cell? ⟨b, 1, none⟩ = some x1 ∧ W.cell? ⟨b, 2, none⟩ = some x2 :=
  ⟨cell_of_row W b 0 _ _ _ h, cell_of_row W b 1 _ _ _ h, cell_of_row W b 2 _ _ _ h⟩
theorem ruc {W : World} {b : Nat} {t : TypeId} {x0 x1 x2 x3 : Value} (h : W.heap[b]? = some (.cells #[x0, x1, x2, x3] t (0, 0))) :
    W.cell? ⟨b, 0, none⟩ = some x0 ∧ W.cell? ⟨b, 1, none⟩ = some x1 ∧ W.cell? ⟨b, 2, none⟩ = some x2 ∧ W.cell? ⟨b, 3, none⟩ = some x3 :=
  ⟨cell_of_row W b 0 _ _ _ h, cell_of_row W b 1 _ _ _ h, cell_of_row W b 2 _ _ _ h, cell_of_row W b 3 _ _ _ h⟩
def last (l : List Nat) : Nat := l.getLast?.getD 0
theorem last_snoc (l : List Nat) (x : Nat) : last (l ++ [x]) = x := by simp [last]
theorem drop_snoc (l : List Nat) (x : Nat) : (l ++ [x]).dropLast = l := by simp
/-- Which rules an event meets. -/
def mq (rM rP rF : Nat → Int) (pn : Nat) (Mi L C : Int) : Nat → Bool := fun j => decide (Mt (rM j) (rP j) (rF j) pn Mi L C)
theorem lev_stop (q : Nat → Bool) (n k : Nat) (h0 : upto (bk n) k ≠ []) (hk : k ≤ n) (h1 : q (last (upto (bk n) k)) = true) (h2 : ∀ y ∈ (upto (bk n) k).dropLast, q y = false) : lev q n = last (upto (bk n) k) + 1 := by
  obtain ⟨m, rfl⟩ : ∃ m, k = m + 1 := ⟨k - 1, by rcases k with _ | k; exact absurd rfl h0; omega⟩
  rw [upto_succ, last_snoc] at h1 ⊢
  rw [upto_succ, drop_snoc] at h2
  refine lev_of q n _ (by unfold bk; omega) (fun _ => by simpa using h1) (fun j a b => h2 j ?_)
  refine List.mem_map.2 ⟨n - 1 - j, List.mem_range.2 (by unfold bk at a; omega), by unfold bk; omega⟩
theorem lev_done (q : Nat → Bool) (n : Nat) (h : ∀ y ∈ upto (bk n) n, q y = false) : lev q n = 0 :=
  lev_of q n 0 (Nat.zero_le _) (fun h => absurd rfl h) (fun j _ b => h j (List.mem_map.2 ⟨n - 1 - j, List.mem_range.2 (by omega), by unfold bk; omega⟩))
theorem in_load_row {F : Fence} {n : Nat} {P : Program} {ops : Array Oper} {rest : List Oper} {o : Oper} {a : Act} {w : World} {Q : Exit → Act → World → Prop} (hgd : o.guard = none) (ty : TypeId) (x : Operand) (ho : o.op = .load ty x)
    (g : Nat) (hx : a.eval x = .pointer (some ⟨g, 0, none⟩)) (t : TypeId) (cs : Array Value) (fr : Nat × Nat) (d : TypeDesc) (hg : w.heap[g]? = some (.cells cs t fr))
    (hu : P.underlying ty = some d) (hd : (match d with | .struct _ | .array _ _ => true | _ => false) = true) (hi : (P.info? ty).map (·.size) = some cs.size)
    (h : wpListIn F n P ops Q rest (a.put o.dst (.agg cs)) w) : wpListIn F n P ops Q (o :: rest) a w := by
  refine wpListIn_plain hgd fun K hK => ?_
  unfold Oper.wpIn
  refine ⟨?_, ?_⟩
  · simp [Oper.about, ho]
  · rw [Oper.semAt_plain F _ _ (by rw [ho]; intro c hc'; cases hc')]
    unfold execOp
    simp only [ho, hx, Instr.loadAt, Instr.sureAddr, Sem.run_bind, Sem.run_pure, Result.andThen_ok, run_loadVar_row w g t ty cs fr d hg hu hd hi]
    exact hK _ _ h
set_option maxRecDepth 100000 in
set_option maxHeartbeats 4000000 in
theorem level_in (g n c : Nat) (rM rP rF rD : Nat → Int) (Ds Ev : Int) (s0 s1 s2 s3 : ByteArray) (n1 n2 n3 n4 n5 : Int) (pa : Option Addr) (pn pc : Nat) (X Y Z T Mi Lo A1 A2 A3 A4 A5 A6 L H C : Int) (w : World) (h : RW w g n c rM rP rF rD) (d0 : 0 ≤ Ds) (d9 : Ds ≤ 9007199254740992) (e0 : 0 ≤ Ev) (e9 : Ev ≤ 9007199254740992) :
    CallsIn Fence.wide 6 Try.prog 11 #[.agg #[.slice (some ⟨g, 0, none⟩) n c, .int .i64 Ds, .int .i64 Ev], .agg #[.string s0, .string s1, .string s2, .string s3, .int .i64 n1, .int .i64 n2, .int .i64 n3, .int .i64 n4, .int .i64 n5, .slice pa pn pc, .int .i64 X, .int .i64 Y, .int .i64 Z, .int .i64 T, .int .i64 Mi, .int .i64 Lo, .int .i64 A1, .int .i64 A2, .int .i64 A3, .int .i64 A4, .int .i64 A5, .int .i64 A6, .int .i64 L, .int .i64 H, .int .i64 C]] w fun e W' => e = .returned (.int .i64 (lev (mq rM rP rF pn Mi L C) n : Nat)) ∧ Below w.heap.size w W' := by
  have hro : Fence.wide.round = none := rfl
  have hn1 := h.n1
  have hn8 := h.n8
  have nc := h.le
  have gl := h.lt
  obtain ⟨W3, hW3⟩ : ∃ W3, W3 = ((w.alloc (.cells #[.slice (some ⟨g, 0, none⟩) n c, .int .i64 Ds, .int .i64 Ev] 27)).alloc (.cells #[.string s0, .string s1, .string s2, .string s3, .int .i64 n1, .int .i64 n2, .int .i64 n3, .int .i64 n4, .int .i64 n5, .slice pa pn pc, .int .i64 X, .int .i64 Y, .int .i64 Z, .int .i64 T, .int .i64 Mi, .int .i64 Lo, .int .i64 A1, .int .i64 A2, .int .i64 A3, .int .i64 A4, .int .i64 A5, .int .i64 A6, .int .i64 L, .int .i64 H, .int .i64 C] 45)).alloc (.cells #[.int .i64 0] 3) := ⟨_, rfl⟩
  have p0 : W3.heap[w.heap.size]? = some (.cells #[.slice (some ⟨g, 0, none⟩) n c, .int .i64 Ds, .int .i64 Ev] 27 (0, 0)) := by rw [hW3]; exact Geo.blk_alloc (Geo.blk_alloc (Geo.blk_new _ _) _) _
  have p1 : W3.heap[w.heap.size + 1]? = some (.cells #[.string s0, .string s1, .string s2, .string s3, .int .i64 n1, .int .i64 n2, .int .i64 n3, .int .i64 n4, .int .i64 n5, .slice pa pn pc, .int .i64 X, .int .i64 Y, .int .i64 Z, .int .i64 T, .int .i64 Mi, .int .i64 Lo, .int .i64 A1, .int .i64 A2, .int .i64 A3, .int .i64 A4, .int .i64 A5, .int .i64 A6, .int .i64 L, .int .i64 H, .int .i64 C] 45 (0, 0)) := by rw [hW3]; exact Geo.blk_alloc (Geo.blk_new1 _ _ _) _
  have p2 : W3.heap[w.heap.size + 1 + 1]? = some (.cells #[.int .i64 0] 3 (0, 0)) := by rw [hW3]; exact Geo.blk_new2 _ _ _ _
  have z3 : W3.heap.size = w.heap.size + 1 + 1 + 1 := by rw [hW3]; simp
  have B3 : Below w.heap.size w W3 := by rw [hW3]; exact (((Below.refl w.heap.size w).alloc (Nat.le_refl _) _).alloc (by simp) _).alloc (by simp; omega) _
  have R3 := h.below B3
  have V := Lib.hid (validate_yes g n c rM rP rF rD Ds Ev W3 R3 d0 d9 e0 e9)
  replace hW3 := Lib.hid hW3
  clear h
  refine callsIn_of_wp_marks Try.func11 rfl trivial ?_ hro
  simp only [Try.ntmps11, List.size_toArray, List.length_cons, List.length_nil, Nat.reduceAdd, Nat.reduceSub, Array.replicate_succ, Array.replicate_zero, List.push_toArray, List.append_toArray, List.nil_append, List.cons_append]
  gi_wp2
  rw [← hW3.out]
  refine ⟨trivial, (callsIn_wide.2 V.out).mono ?_⟩
  rintro e w1 ⟨rfl, hb1⟩
  replace p0 := (hb1.block _ (by omega)).trans p0
  replace p1 := (hb1.block _ (by omega)).trans p1
  replace p2 := (hb1.block _ (by omega)).trans p2
  have R1 := R3.below hb1
  have z1 : w.heap.size + 1 + 1 + 1 ≤ w1.heap.size := by have := hb1.size; omega
  have B1 : Below w.heap.size w w1 := B3.trans (hb1.mono (by omega))
  obtain ⟨k0, k1, k2⟩ := tri p0
  clear V hb1 R3 z3 hW3 B3
  gi_wp2
  refine ⟨trivial, (back_in Fence.wide _ trivial rfl _ _ _ _).mono ?_⟩
  rintro e w2 ⟨rfl, rfl⟩
  obtain ⟨W0, hW0⟩ : ∃ W0, W0 = w1.alloc (.cells #[.slice (some ⟨g, 0, none⟩) n c] 25) := ⟨_, rfl⟩
  rw [← hW0]
  have bN : Boxed W0 w1.heap.size 25 (.slice (some ⟨g, 0, none⟩) n c) := by rw [hW0]; exact Boxed.new _ _ _
  have p2' : Boxed W0 (w.heap.size + 1 + 1) 3 (.int .i64 0) := by rw [hW0]; exact Geo.blk_alloc p2 _
  have p1' : W0.heap[w.heap.size + 1]? = some (.cells #[.string s0, .string s1, .string s2, .string s3, .int .i64 n1, .int .i64 n2, .int .i64 n3, .int .i64 n4, .int .i64 n5, .slice pa pn pc, .int .i64 X, .int .i64 Y, .int .i64 Z, .int .i64 T, .int .i64 Mi, .int .i64 Lo, .int .i64 A1, .int .i64 A2, .int .i64 A3, .int .i64 A4, .int .i64 A5, .int .i64 A6, .int .i64 L, .int .i64 H, .int .i64 C] 45 (0, 0)) := by rw [hW0]; exact Geo.blk_alloc p1 _
  have R0 : RW W0 g n c rM rP rF rD := by rw [hW0]; exact R1.below (Geo.new_block _)
  have B0 : Below w.heap.size w W0 := by rw [hW0]; exact B1.alloc B1.size _
  have z0 : W0.heap.size = w1.heap.size + 1 := by rw [hW0]; simp
  clear hW0
  gi_wp2
  refine wpIn_rangeFunc_ownH hro (by decide) (gf := 27) (lb := #[.pointer (some ⟨w1.heap.size, 0, none⟩)]) rfl trivial (enters_of Try.func27 (by kernel_rfl) rfl)
    (back_stops Fence.wide 5 trivial rfl (by omega) w1.heap.size W0.heap.size (w.heap.size + 1 + 1) g n c rM rP rF rD (by omega) nc (by omega) (by omega) (by omega) (by omega) W0 (Nat.le_refl _) bN.cell R0.at0 R0.at1 R0.at2 R0.at3) (fun h k => KX.trans h k)
    (fun W l o o' hl hk h1 h2 => ⟨(belowK_b (n₀ := W0.heap.size) (Nat.le_refl _) W l o o' hl hk h1 h2).size, fun k h3 _ => (belowK_b (n₀ := W0.heap.size) (Nat.le_refl _) W l o o' hl hk h1 h2).block k h3⟩) (Below.refl _ _) (fun _ => rfl)
    (fun pre W => ((∀ y ∈ pre, mq rM rP rF pn Mi L C y = false) ∧ Boxed W (w.heap.size + 1 + 1) 3 (.int .i64 0)) ∧ (Below w.heap.size w W ∧ KX W0.heap.size (w.heap.size + 1 + 1) W0 W))
    (fun cc pre W => ((cc = .ret ∧ pre ≠ [] ∧ mq rM rP rF pn Mi L C (last pre) = true ∧ ∀ y ∈ pre.dropLast, mq rM rP rF pn Mi L C y = false) ∧ Boxed W (w.heap.size + 1 + 1) 3 (.int .i64 (wrap64 ((last pre : Int) + 1)))) ∧ Below w.heap.size w W)
    (OwnFrom.and (OwnFrom.and (ownFrom_pure _ _) (Own.from (boxed_own _ _ _) _)) (OwnFrom.and (ownFrom_below (Nat.le_refl _) (by omega)) (kx_own _ _ _ (Nat.le_refl _))))
    (fun cc => OwnFrom.and (OwnFrom.and (ownFrom_pure _ _) (Own.from (boxed_own _ _ (fun pre => Value.int .i64 (wrap64 ((last pre : Int) + 1)))) _)) (ownFrom_below (Nat.le_refl _) (by omega)))
    ⟨⟨by simp, p2'⟩, B0, KX.refl _ _ _⟩
    (fun x a' W => ∃ Bx, W0.heap.size ≤ Bx ∧ W.heap[Bx]? = some (.cells #[.int .i64 (rM x), .int .i64 (rP x), .int .i64 (rF x), .int .i64 (rD x)] 48 (0, 0)) ∧ a' = { tmps := #[.agg #[.slice (some ⟨g, 0, none⟩) n c, .int .i64 Ds, .int .i64 Ev], .agg #[.string s0, .string s1, .string s2, .string s3, .int .i64 n1, .int .i64 n2, .int .i64 n3, .int .i64 n4, .int .i64 n5, .slice pa pn pc, .int .i64 X, .int .i64 Y, .int .i64 Z, .int .i64 T, .int .i64 Mi, .int .i64 Lo, .int .i64 A1, .int .i64 A2, .int .i64 A3, .int .i64 A4, .int .i64 A5, .int .i64 A6, .int .i64 L, .int .i64 H, .int .i64 C], .pointer (some ⟨w.heap.size, 0, none⟩), .pointer (some ⟨w.heap.size + 1, 0, none⟩), .pointer (some ⟨w.heap.size + 1 + 1, 0, none⟩), .int .i64 (x : Int), .pointer (some ⟨Bx, 0, none⟩), .agg #[.slice (some ⟨g, 0, none⟩) n c, .int .i64 Ds, .int .i64 Ev], .int .i64 0, .bool false, .pointer (some ⟨w.heap.size, 0, none⟩), .slice (some ⟨g, 0, none⟩) n c, .func (.func 27) #[] #[.pointer (some ⟨w1.heap.size, 0, none⟩)], .int .i64 (x : Int), .agg #[.int .i64 (rM x), .int .i64 (rP x), .int .i64 (rF x), .int .i64 (rD x)], undef, undef, undef, undef, undef], defers := [] })
    (fun x a' _ A B row hs hg hr => by
      obtain ⟨Bx, f1, f2, f3⟩ := hs
      exact ⟨Bx, f1, (hg.block Bx (Array.getElem?_eq_some_iff.1 f2).1 (fun e => by obtain ⟨o, ho, hc⟩ := (hr Bx e.symm).2; rw [f2] at ho; cases ho; cases hc)).trans f2, f3⟩)
    ?assign ?body ?done ?stop
  case assign =>
    rintro l pre x W K ⟨⟨hp, bR⟩, hB, hX⟩ hK
    gi_wp2
    exact hK _ _ ((KeepsOthers.alloc _ _).from _) (KX.below (Geo.new_block (w := W) _) hX.size) ⟨⟨hp, bR.alloc _⟩, hB.alloc hB.size _, hX.trans (KX.below (Geo.new_block (w := W) _) hX.size)⟩ ⟨W.heap.size, hX.size, heap_alloc_new _ _, rfl⟩
  case body =>
    rintro l pre x a' W hl hr ⟨⟨hp, bR⟩, hB, hX⟩ ⟨Bx, hBx, bX, rfl⟩ hlt
    obtain ⟨r0, r1, r2, r3⟩ := ruc bX
    have pE := (hX.same (w.heap.size + 1) (by omega) (by omega)).trans p1'
    have hsW := hX.size
    gi_wp2_with (refine in_load_row rfl 45 (.tmp 3) rfl (w.heap.size + 1) (by simp [Act.eval]) 45 #[.string s0, .string s1, .string s2, .string s3, .int .i64 n1, .int .i64 n2, .int .i64 n3, .int .i64 n4, .int .i64 n5, .slice pa pn pc, .int .i64 X, .int .i64 Y, .int .i64 Z, .int .i64 T, .int .i64 Mi, .int .i64 Lo, .int .i64 A1, .int .i64 A2, .int .i64 A3, .int .i64 A4, .int .i64 A5, .int .i64 A6, .int .i64 L, .int .i64 H, .int .i64 C] (0, 0) _ pE rfl rfl rfl ?_)
    refine ⟨trivial, (CallsIn.inRound l (callsIn_wide.2 (meets_any (rM x) (rP x) (rF x) (rD x) s0 s1 s2 s3 n1 n2 n3 n4 n5 pa pn pc X Y Z T Mi Lo A1 A2 A3 A4 A5 A6 L H C W))).mono ?_⟩
    rintro e W5 ⟨rfl, hb5⟩
    have bR5 : Boxed W5 (w.heap.size + 1 + 1) 3 (.int .i64 0) := (hb5.block _ bR.lt).trans bR
    have cR := bR5.cell
    have fR := bR5.frozen
    have kf : KeepsFrom W0.heap.size W W5 := KeepsFrom.of_grownBy (row := none) (Src.grown_of_below hb5) (fun j e => by cases e)
    have hB5 : Below w.heap.size w W5 := hB.trans (hb5.mono hB.size)
    have hX5 : KX W0.heap.size (w.heap.size + 1 + 1) W W5 := KX.below hb5 hX.size
    have hm : mq rM rP rF pn Mi L C x = decide (Mt (rM x) (rP x) (rF x) pn Mi L C) := rfl
    rw [← hm]
    replace hm := Lib.hid hm
    cases hq : mq rM rP rF pn Mi L C x with
    | true =>
      replace hq := Lib.hid hq
      gi_wp2
      exact ⟨kf.trans ((KeepsOthers.setCell _ _ _).from _), ⟨⟨rfl, by simp, by rw [last_snoc]; exact hq.out, by rw [drop_snoc]; exact hp⟩, by rw [last_snoc]; exact bR5.set _⟩, hB5.setCell (p := ⟨w.heap.size + 1 + 1, 0, none⟩) (by show _ ≤ w.heap.size + 1 + 1; omega) _⟩
    | false =>
      replace hq := Lib.hid hq
      gi_wp2
      exact ⟨kf, hX5, ⟨⟨fun y hy => (List.mem_append.1 hy).elim (hp y) (fun e => by simp at e; subst e; exact hq.out), bR5⟩, hB5, hX.trans hX5⟩⟩
  case done =>
    rintro D ys W hD rfl ⟨⟨hp, bR⟩, hB, hX⟩ hK
    have cR := bR.cell
    have fR := bR.frozen
    gi_wp2
    have hK' := (KeepsOthers.setCell W ⟨w.heap.size + 1 + 1, 0, none⟩ (.int .i64 0)).same D _ hK rfl
    refine ⟨by simp, .inl ⟨_, _, rfl, run_takeDeferred hK', ?_⟩⟩
    have hc5 := cell_kept (bR.set (.int .i64 0)).cell (grownBy_putObj' _ D (.deferred none)) (fun r e => by cases e; exact ⟨_, hK', rfl⟩)
    refine ⟨.int .i64 0, ?_, by rw [lev_done _ _ hp]; rfl, (hB.setCell (p := ⟨w.heap.size + 1 + 1, 0, none⟩) (by show _ ≤ w.heap.size + 1 + 1; omega) _).trans (belowK_b (w := w) (Nat.le_refl _) _ D _ _ (by omega) hK' rfl rfl)⟩
    simp [results, Try.results11, go_sem, hc5]
  case stop =>
    rintro D cc pre W hD hpre ⟨⟨⟨rfl, h0, h1, h2⟩, bR⟩, hB⟩ hK
    obtain ⟨k, hk, rfl⟩ := hpre
    gi_wp2
    refine ⟨by simp, .inl ⟨_, _, rfl, run_takeDeferred hK, ?_⟩⟩
    have hc5 := cell_kept bR.cell (grownBy_putObj' _ D (.deferred none)) (fun r e => by cases e; exact ⟨_, hK, rfl⟩)
    have hl := lev_stop _ n k h0 hk h1 h2
    have hle := lev_le (mq rM rP rF pn Mi L C) n
    refine ⟨.int .i64 (wrap64 ((last (upto (bk n) k) : Int) + 1)), ?_, ?_, hB.trans (belowK_b (w := w) (Nat.le_refl _) W D _ _ (by omega) hK rfl rfl)⟩
    · simp [results, Try.results11, go_sem, hc5]
    · rw [hl, IntWalk.wrap64_in _ ⟨by omega, by omega⟩]; rfl
/-- rule.Level at a valid policy. -/
theorem level_any (g n c : Nat) (rM rP rF rD : Nat → Int) (Ds Ev : Int) (s0 s1 s2 s3 : ByteArray) (n1 n2 n3 n4 n5 : Int) (pa : Option Addr) (pn pc : Nat) (X Y Z T Mi Lo A1 A2 A3 A4 A5 A6 L H C : Int) (w : World) (h : RW w g n c rM rP rF rD) (d0 : 0 ≤ Ds) (d9 : Ds ≤ 9007199254740992) (e0 : 0 ≤ Ev) (e9 : Ev ≤ 9007199254740992) :
    Calls Try.prog 11 #[.agg #[.slice (some ⟨g, 0, none⟩) n c, .int .i64 Ds, .int .i64 Ev], .agg #[.string s0, .string s1, .string s2, .string s3, .int .i64 n1, .int .i64 n2, .int .i64 n3, .int .i64 n4, .int .i64 n5, .slice pa pn pc, .int .i64 X, .int .i64 Y, .int .i64 Z, .int .i64 T, .int .i64 Mi, .int .i64 Lo, .int .i64 A1, .int .i64 A2, .int .i64 A3, .int .i64 A4, .int .i64 A5, .int .i64 A6, .int .i64 L, .int .i64 H, .int .i64 C]] w fun e W' => e = .returned (.int .i64 (lev (mq rM rP rF pn Mi L C) n : Nat)) ∧ Below w.heap.size w W' :=
  callsIn_wide.1 (level_in g n c rM rP rF rD Ds Ev s0 s1 s2 s3 n1 n2 n3 n4 n5 pa pn pc X Y Z T Mi Lo A1 A2 A3 A4 A5 A6 L H C w h d0 d9 e0 e9)
end Ru
end Go.Proofs.Yticjmblajloefaa
