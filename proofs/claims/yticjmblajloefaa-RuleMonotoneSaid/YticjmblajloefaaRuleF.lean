/- rule.Moved. -/
import Derived.Test.YticjmblajloefaaRuleE
import Derived.Test.YticjmblajloefaaLate
import Derived.Deep.MidRow
import Derived.Deep.DeepCutAuto
set_option linter.unusedVariables false
set_option linter.unusedSimpArgs false
namespace Go.Proofs.Yticjmblajloefaa
open Go.RowKit
namespace Ru
theorem range_of_block {w : World} {b : Nat} {cs : Array Value} {t : TypeId} {fr : Nat × Nat} (h : w.heap[b]? = some (.cells cs t fr)) (o : Nat) : w.rangeAt b o (cs.toList.drop o) := fun j v hj => by
  rw [List.getElem?_drop] at hj
  rw [cell_of_row _ _ _ _ _ _ h]
  simpa using hj
theorem below_setRow {n₀ : Nat} {A w : World} (h : Below n₀ A w) (b : Nat) (cs : Array Value) (hb : n₀ ≤ b) : Below n₀ A (w.setRow b cs) :=
  ⟨by simpa using h.os, by simpa using h.tape, by simpa using h.output, by simpa [World.setRow] using h.size, fun k hk => (setRow_other w b k cs (by omega)).trans (h.block k hk)⟩
theorem exec_row {P : Program} {ρ : Operand → Value} {o : Oper} {w : World} (ty : TypeId) (x : Operand) (ho : o.op = .load ty x) (g : Nat) (hx : ρ x = .pointer (some ⟨g, 0, none⟩)) (t : TypeId) (cs : Array Value) (fr : Nat × Nat) (d : TypeDesc)
    (hg : w.heap[g]? = some (.cells cs t fr)) (hu : P.underlying ty = some d) (hd : (match d with | .struct _ | .array _ _ => true | _ => false) = true) (hi : (P.info? ty).map (·.size) = some cs.size) :
    (execOp ρ o).run P w = .ok (.value (.agg cs)) w := by
  unfold execOp
  simp only [ho, hx, Instr.loadAt, Instr.sureAddr, Sem.run_bind, Sem.run_pure, Result.andThen_ok, run_loadVar_row w g t ty cs fr d hg hu hd hi]
theorem exec_mid {P : Program} {ρ : Operand → Value} {o : Oper} {w : World} (ty : TypeId) (x : Operand) (ho : o.op = .load ty x) (b k : Nat) (hx : ρ x = .pointer (some ⟨b, k, none⟩)) (cs : List Value) (d : TypeDesc)
    (hc : w.rangeAt b k cs) (hu : P.underlying ty = some d) (hd : d.isRow = true) (hi : (P.info? ty).map (·.size) = some cs.length) :
    (execOp ρ o).run P w = .ok (.value (.agg cs.toArray)) w := by
  unfold execOp
  simp only [ho, hx, Instr.loadAt, Instr.sureAddr, Sem.run_bind, Sem.run_pure, Result.andThen_ok, run_loadVar_mid w b k ty cs d hc hu hd hi]
theorem quiet_row {P : Program} {C : World → Prop} {o : Oper} {a : Act} {K : Act → Prop} (ty : TypeId) (x : Operand) (ho : o.op = .load ty x) (g : Nat) (hx : a.eval x = .pointer (some ⟨g, 0, none⟩)) (t : TypeId) (cs : Array Value) (fr : Nat × Nat) (d : TypeDesc)
    (hg : ∀ w, C w → w.heap[g]? = some (.cells cs t fr)) (hu : P.underlying ty = some d) (hd : (match d with | .struct _ | .array _ _ => true | _ => false) = true) (hi : (P.info? ty).map (·.size) = some cs.size)
    (hk : K (a.put o.dst (.agg cs))) : o.quiet P a C K :=
  ⟨_, fun w hw => by unfold Oper.quietAt; rw [exec_row ty x ho g hx t cs fr d (hg w hw) hu hd hi]; exact ⟨rfl, rfl⟩, hk⟩
theorem quiet_mid {P : Program} {C : World → Prop} {o : Oper} {a : Act} {K : Act → Prop} (ty : TypeId) (x : Operand) (ho : o.op = .load ty x) (b k : Nat) (hx : a.eval x = .pointer (some ⟨b, k, none⟩)) (cs : List Value) (d : TypeDesc)
    (hc : ∀ w, C w → w.rangeAt b k cs) (hu : P.underlying ty = some d) (hd : d.isRow = true) (hi : (P.info? ty).map (·.size) = some cs.length)
    (hk : K (a.put o.dst (.agg cs.toArray))) : o.quiet P a C K :=
  ⟨_, fun w hw => by unfold Oper.quietAt; rw [exec_mid ty x ho b k hx cs d (hc w hw) hu hd hi]; exact ⟨rfl, rfl⟩, hk⟩
theorem rng3 {w : World} {b : Nat} {cs : Array Value} {t : TypeId} {fr : Nat × Nat} {x y z : Value} (o : Nat) (h : w.heap[b]? = some (.cells cs t fr)) (h0 : cs[o]? = some x) (h1 : cs[o + 1]? = some y) (h2 : cs[o + 2]? = some z) : w.rangeAt b o [x, y, z] := fun j v hj => by
  rw [cell_of_row _ _ _ _ _ _ h]
  rcases j with _ | _ | _ | j
  · rw [← hj]; exact h0
  · rw [← hj]; exact h1
  · rw [← hj]; exact h2
  · simp at hj
theorem rng2 {w : World} {b : Nat} {cs : Array Value} {t : TypeId} {fr : Nat × Nat} {x y : Value} (o : Nat) (h : w.heap[b]? = some (.cells cs t fr)) (h0 : cs[o]? = some x) (h1 : cs[o + 1]? = some y) : w.rangeAt b o [x, y] := fun j v hj => by
  rw [cell_of_row _ _ _ _ _ _ h]
  rcases j with _ | _ | j
  · rw [← hj]; exact h0
  · rw [← hj]; exact h1
  · simp at hj
/-- Whether an update is due. -/
def Mv (q q' : Nat → Bool) (n : Nat) (Ds X Y Z T L H X' Y' Z' T' L' H' : Int) : Bool :=
  decide (lev q n ≠ lev q' n ∨ (Ds ≤ 4194304 ∧ Ds * Ds < Geo.sq3 X Y Z X' Y' Z') ∨ Ds < max T T' - min T T' ∨ ¬ max L L' ≤ min H H')
set_option maxRecDepth 100000 in
set_option maxHeartbeats 4000000 in
theorem moved_any (g n c : Nat) (rM rP rF rD : Nat → Int) (Ds Ev : Int) (s0 s1 s2 s3 : ByteArray) (n1 n2 n3 n4 n5 : Int) (pa : Option Addr) (pn pc : Nat) (X Y Z T Mi Lo A1 A2 A3 A4 A5 A6 L H C : Int) (s0' s1' s2' s3' : ByteArray) (n1' n2' n3' n4' n5' : Int) (pa' : Option Addr) (pn' pc' : Nat) (X' Y' Z' T' Mi' Lo' A1' A2' A3' A4' A5' A6' L' H' C' : Int) (w : World) (h : RW w g n c rM rP rF rD) (d0 : 0 ≤ Ds) (d9 : Ds ≤ 9007199254740992) (e0 : 0 ≤ Ev) (e9 : Ev ≤ 9007199254740992)
    (t0 : 0 ≤ T) (t9 : T ≤ 9007199254740992) (t0' : 0 ≤ T') (t9' : T' ≤ 9007199254740992) (hp : Geo.PV X Y Z) (hp' : Geo.PV X' Y' Z') :
    Calls Try.prog 13 #[.agg #[.slice (some ⟨g, 0, none⟩) n c, .int .i64 Ds, .int .i64 Ev], .agg #[.string s0, .string s1, .string s2, .string s3, .int .i64 n1, .int .i64 n2, .int .i64 n3, .int .i64 n4, .int .i64 n5, .slice pa pn pc, .int .i64 X, .int .i64 Y, .int .i64 Z, .int .i64 T, .int .i64 Mi, .int .i64 Lo, .int .i64 A1, .int .i64 A2, .int .i64 A3, .int .i64 A4, .int .i64 A5, .int .i64 A6, .int .i64 L, .int .i64 H, .int .i64 C], .agg #[.string s0', .string s1', .string s2', .string s3', .int .i64 n1', .int .i64 n2', .int .i64 n3', .int .i64 n4', .int .i64 n5', .slice pa' pn' pc', .int .i64 X', .int .i64 Y', .int .i64 Z', .int .i64 T', .int .i64 Mi', .int .i64 Lo', .int .i64 A1', .int .i64 A2', .int .i64 A3', .int .i64 A4', .int .i64 A5', .int .i64 A6', .int .i64 L', .int .i64 H', .int .i64 C']] w fun e W' => e = .returned (.bool (Mv (mq rM rP rF pn Mi L C) (mq rM rP rF pn' Mi' L' C') n Ds X Y Z T L H X' Y' Z' T' L' H')) ∧ Below w.heap.size w W' := by
  obtain ⟨W3, hW3⟩ : ∃ W3, W3 = ((w.alloc (.cells #[.slice (some ⟨g, 0, none⟩) n c, .int .i64 Ds, .int .i64 Ev] 27)).alloc (.cells #[.string s0, .string s1, .string s2, .string s3, .int .i64 n1, .int .i64 n2, .int .i64 n3, .int .i64 n4, .int .i64 n5, .slice pa pn pc, .int .i64 X, .int .i64 Y, .int .i64 Z, .int .i64 T, .int .i64 Mi, .int .i64 Lo, .int .i64 A1, .int .i64 A2, .int .i64 A3, .int .i64 A4, .int .i64 A5, .int .i64 A6, .int .i64 L, .int .i64 H, .int .i64 C] 45)).alloc (.cells #[.string s0', .string s1', .string s2', .string s3', .int .i64 n1', .int .i64 n2', .int .i64 n3', .int .i64 n4', .int .i64 n5', .slice pa' pn' pc', .int .i64 X', .int .i64 Y', .int .i64 Z', .int .i64 T', .int .i64 Mi', .int .i64 Lo', .int .i64 A1', .int .i64 A2', .int .i64 A3', .int .i64 A4', .int .i64 A5', .int .i64 A6', .int .i64 L', .int .i64 H', .int .i64 C'] 45) := ⟨_, rfl⟩
  have p0 : W3.heap[w.heap.size]? = some (.cells #[.slice (some ⟨g, 0, none⟩) n c, .int .i64 Ds, .int .i64 Ev] 27 (0, 0)) := by rw [hW3]; exact Geo.blk_alloc (Geo.blk_alloc (Geo.blk_new _ _) _) _
  have p1 : W3.heap[w.heap.size + 1]? = some (.cells #[.string s0, .string s1, .string s2, .string s3, .int .i64 n1, .int .i64 n2, .int .i64 n3, .int .i64 n4, .int .i64 n5, .slice pa pn pc, .int .i64 X, .int .i64 Y, .int .i64 Z, .int .i64 T, .int .i64 Mi, .int .i64 Lo, .int .i64 A1, .int .i64 A2, .int .i64 A3, .int .i64 A4, .int .i64 A5, .int .i64 A6, .int .i64 L, .int .i64 H, .int .i64 C] 45 (0, 0)) := by rw [hW3]; exact Geo.blk_alloc (Geo.blk_new1 _ _ _) _
  have p2 : W3.heap[w.heap.size + 1 + 1]? = some (.cells #[.string s0', .string s1', .string s2', .string s3', .int .i64 n1', .int .i64 n2', .int .i64 n3', .int .i64 n4', .int .i64 n5', .slice pa' pn' pc', .int .i64 X', .int .i64 Y', .int .i64 Z', .int .i64 T', .int .i64 Mi', .int .i64 Lo', .int .i64 A1', .int .i64 A2', .int .i64 A3', .int .i64 A4', .int .i64 A5', .int .i64 A6', .int .i64 L', .int .i64 H', .int .i64 C'] 45 (0, 0)) := by rw [hW3]; exact Geo.blk_new2 _ _ _ _
  have z3 : W3.heap.size = w.heap.size + 1 + 1 + 1 := by rw [hW3]; simp
  have B3 : Below w.heap.size w W3 := by rw [hW3]; exact (((Below.refl w.heap.size w).alloc (Nat.le_refl _) _).alloc (by simp) _).alloc (by simp; omega) _
  have R3 := h.below B3
  have V := Lib.hid (validate_yes g n c rM rP rF rD Ds Ev W3 R3 d0 d9 e0 e9)
  replace hW3 := Lib.hid hW3
  clear h
  go_enter Try.func13, Try.ntmps13
  go_wp2_with (go_at_call 20; rw [← hW3.out]; refine V.out.mono ?_; rintro e w1 ⟨rfl, hb1⟩)
  have B1 := Lib.hid (B3.trans (hb1.mono (by omega)))
  have zw1 : w.heap.size + 1 + 1 + 1 ≤ w1.heap.size := by have := hb1.size; omega
  replace p0 := Lib.hid ((hb1.block _ (by omega)).trans p0)
  replace p1 := Lib.hid ((hb1.block _ (by omega)).trans p1)
  replace p2 := Lib.hid ((hb1.block _ (by omega)).trans p2)
  have R1 := Lib.hid (R3.below hb1)
  clear hb1 V R3 B3 z3 hW3
  go_cut [7, 8] (fun s7 s8 wx => ∃ b7 b8 : Nat, s7 = .pointer (some ⟨b7, 0, none⟩) ∧ s8 = .pointer (some ⟨b8, 0, none⟩) ∧ Hid (wx.heap[b7]? = some (.cells #[.slice pa pn pc, .int .i64 X, .int .i64 Y, .int .i64 Z, .int .i64 T, .int .i64 Mi, .int .i64 Lo, .int .i64 A1, .int .i64 A2, .int .i64 A3, .int .i64 A4, .int .i64 A5, .int .i64 A6, .int .i64 L, .int .i64 H, .int .i64 C] 43 (0, 0))) ∧ Hid (wx.heap[b8]? = some (.cells #[.slice pa' pn' pc', .int .i64 X', .int .i64 Y', .int .i64 Z', .int .i64 T', .int .i64 Mi', .int .i64 Lo', .int .i64 A1', .int .i64 A2', .int .i64 A3', .int .i64 A4', .int .i64 A5', .int .i64 A6', .int .i64 L', .int .i64 H', .int .i64 C'] 43 (0, 0))) ∧ Hid (Below w1.heap.size w1 wx))
  case first =>
    have BS := Lib.hid (show Below w1.heap.size w1 w1.drew from (Below.refl _ _).drew)
    refine Late.wp_region_noPanic ?_
    refine Late.wp_region_late (S := fun w' => w'.rangeAt (w.heap.size + 1) 9 [.slice pa pn pc, .int .i64 X, .int .i64 Y, .int .i64 Z, .int .i64 T, .int .i64 Mi, .int .i64 Lo, .int .i64 A1, .int .i64 A2, .int .i64 A3, .int .i64 A4, .int .i64 A5, .int .i64 A6, .int .i64 L, .int .i64 H, .int .i64 C] ∧ w'.rangeAt (w.heap.size + 1 + 1) 9 [.slice pa' pn' pc', .int .i64 X', .int .i64 Y', .int .i64 Z', .int .i64 T', .int .i64 Mi', .int .i64 Lo', .int .i64 A1', .int .i64 A2', .int .i64 A3', .int .i64 A4', .int .i64 A5', .int .i64 A6', .int .i64 L', .int .i64 H', .int .i64 C']) (late := fun _ => false) (by kernel_rfl) ?_
    generalize w1.drew = wS at *
    have SS : ∀ w', Below w1.heap.size w1 w' → w'.rangeAt (w.heap.size + 1) 9 [.slice pa pn pc, .int .i64 X, .int .i64 Y, .int .i64 Z, .int .i64 T, .int .i64 Mi, .int .i64 Lo, .int .i64 A1, .int .i64 A2, .int .i64 A3, .int .i64 A4, .int .i64 A5, .int .i64 A6, .int .i64 L, .int .i64 H, .int .i64 C] ∧ w'.rangeAt (w.heap.size + 1 + 1) 9 [.slice pa' pn' pc', .int .i64 X', .int .i64 Y', .int .i64 Z', .int .i64 T', .int .i64 Mi', .int .i64 Lo', .int .i64 A1', .int .i64 A2', .int .i64 A3', .int .i64 A4', .int .i64 A5', .int .i64 A6', .int .i64 L', .int .i64 H', .int .i64 C'] := fun w' hb => ⟨range_of_block ((hb.block _ (by omega)).trans p1.out) 9, range_of_block ((hb.block _ (by omega)).trans p2.out) 9⟩
    refine Late.wpAnyL_takeD (i := 0) (d := 12) (v := .pointer (some ⟨w.heap.size + 1, 9, none⟩)) (by decide) rfl (by kernel_rfl) (by kernel_rfl) (by kernel_rfl) (by kernel_rfl) (by kernel_rfl) (fun _ _ _ h => h) ?_ (SS _ BS.out) ?_
    · simp only [List.getElem_toArray, List.getElem_cons_zero]
      refine Or.inl ⟨by rfl, ?_⟩
      intro w' hSw
      go_simp
    try simp only [Act.put, List.setIfInBounds_toArray, List.set_cons_zero, List.set_cons_succ]
    refine Late.wpAnyL_takeD (i := 1) (d := 13) (v := .agg #[.slice pa pn pc, .int .i64 X, .int .i64 Y, .int .i64 Z, .int .i64 T, .int .i64 Mi, .int .i64 Lo, .int .i64 A1, .int .i64 A2, .int .i64 A3, .int .i64 A4, .int .i64 A5, .int .i64 A6, .int .i64 L, .int .i64 H, .int .i64 C]) (by decide) rfl (by kernel_rfl) (by kernel_rfl) (by kernel_rfl) (by kernel_rfl) (by kernel_rfl) (fun _ _ _ h => h) ?_ (SS _ BS.out) ?_
    · simp only [List.getElem_toArray, List.getElem_cons_zero, List.getElem_cons_succ]
      refine Or.inl ⟨by rfl, ?_⟩
      intro w' hSw
      have R := run_loadAt_mid (P := Try.prog) w' _ 9 43 [.slice pa pn pc, .int .i64 X, .int .i64 Y, .int .i64 Z, .int .i64 T, .int .i64 Mi, .int .i64 Lo, .int .i64 A1, .int .i64 A2, .int .i64 A3, .int .i64 A4, .int .i64 A5, .int .i64 A6, .int .i64 L, .int .i64 H, .int .i64 C] _ hSw.1 rfl rfl rfl
      unfold execOp
      dsimp only
      rw [Sem.run_bind]
      first | (rw [R]; rfl) | (erw [R]; rfl) | (refine (congrArg (fun r => Result.andThen r _) R).trans ?_; rfl)
    try simp only [Act.put, List.setIfInBounds_toArray, List.set_cons_zero, List.set_cons_succ]
    refine Late.wpAnyL_takeD (i := 2) (d := 14) (v := .pointer (some ⟨w.heap.size + 1 + 1, 9, none⟩)) (by decide) rfl (by kernel_rfl) (by kernel_rfl) (by kernel_rfl) (by kernel_rfl) (by kernel_rfl) (fun _ _ _ h => h) ?_ (SS _ BS.out) ?_
    · simp only [List.getElem_toArray, List.getElem_cons_zero, List.getElem_cons_succ]
      refine Or.inl ⟨by rfl, ?_⟩
      intro w' hSw
      go_simp
    try simp only [Act.put, List.setIfInBounds_toArray, List.set_cons_zero, List.set_cons_succ]
    refine Late.wpAnyL_takeD (i := 3) (d := 15) (v := .agg #[.slice pa' pn' pc', .int .i64 X', .int .i64 Y', .int .i64 Z', .int .i64 T', .int .i64 Mi', .int .i64 Lo', .int .i64 A1', .int .i64 A2', .int .i64 A3', .int .i64 A4', .int .i64 A5', .int .i64 A6', .int .i64 L', .int .i64 H', .int .i64 C']) (by decide) rfl (by kernel_rfl) (by kernel_rfl) (by kernel_rfl) (by kernel_rfl) (by kernel_rfl) (fun _ _ _ h => h) ?_ (SS _ BS.out) ?_
    · simp only [List.getElem_toArray, List.getElem_cons_zero, List.getElem_cons_succ]
      refine Or.inl ⟨by rfl, ?_⟩
      intro w' hSw
      have R := run_loadAt_mid (P := Try.prog) w' _ 9 43 [.slice pa' pn' pc', .int .i64 X', .int .i64 Y', .int .i64 Z', .int .i64 T', .int .i64 Mi', .int .i64 Lo', .int .i64 A1', .int .i64 A2', .int .i64 A3', .int .i64 A4', .int .i64 A5', .int .i64 A6', .int .i64 L', .int .i64 H', .int .i64 C'] _ hSw.2 rfl rfl rfl
      unfold execOp
      dsimp only
      rw [Sem.run_bind]
      first | (rw [R]; rfl) | (erw [R]; rfl) | (refine (congrArg (fun r => Result.andThen r _) R).trans ?_; rfl)
    try simp only [Act.put, List.setIfInBounds_toArray, List.set_cons_zero, List.set_cons_succ]
    refine Late.wpAnyL_twoD (i := 4) (k := 5) (by decide) (by decide) (by kernel_rfl) (by rfl) (by rfl) (fun K hK => ?_) (fun K hK => ?_)
    · skip
      simp only [List.getElem_toArray, List.getElem_cons_zero, List.getElem_cons_succ]
      have NT := Lib.hid (heap_alloc_new wS (.cells #[.slice none 0 0, .int .i64 0, .int .i64 0, .int .i64 0, .int .i64 0, .int .i64 0, .int .i64 0, .int .i64 0, .int .i64 0, .int .i64 0, .int .i64 0, .int .i64 0, .int .i64 0, .int .i64 0, .int .i64 0, .int .i64 0] 43))
      have BT := Lib.hid (BS.out.alloc BS.out.size (.cells #[.slice none 0 0, .int .i64 0, .int .i64 0, .int .i64 0, .int .i64 0, .int .i64 0, .int .i64 0, .int .i64 0, .int .i64 0, .int .i64 0, .int .i64 0, .int .i64 0, .int .i64 0, .int .i64 0, .int .i64 0, .int .i64 0] 43))
      go_simp
      refine hK.out _ _ (fun _ => SS _ BT.out) ?_
      clear hK K
      try simp only [Act.put, List.setIfInBounds_toArray, List.set_cons_zero, List.set_cons_succ]
      have zT := Lib.hid (show (wS.alloc (.cells #[.slice none 0 0, .int .i64 0, .int .i64 0, .int .i64 0, .int .i64 0, .int .i64 0, .int .i64 0, .int .i64 0, .int .i64 0, .int .i64 0, .int .i64 0, .int .i64 0, .int .i64 0, .int .i64 0, .int .i64 0, .int .i64 0] 43)).heap.size = wS.heap.size + 1 by simp)
      generalize wS.alloc (.cells #[.slice none 0 0, .int .i64 0, .int .i64 0, .int .i64 0, .int .i64 0, .int .i64 0, .int .i64 0, .int .i64 0, .int .i64 0, .int .i64 0, .int .i64 0, .int .i64 0, .int .i64 0, .int .i64 0, .int .i64 0, .int .i64 0] 43) = wT at *
      refine Late.wpAnyL_oneD (i := 5) (by decide) (by kernel_rfl) (by rfl) (fun K hK => ?_)
      simp only [List.getElem_toArray, List.getElem_cons_zero, List.getElem_cons_succ]
      have NU := Lib.hid (heap_alloc_new wT (.cells #[.slice none 0 0, .int .i64 0, .int .i64 0, .int .i64 0, .int .i64 0, .int .i64 0, .int .i64 0, .int .i64 0, .int .i64 0, .int .i64 0, .int .i64 0, .int .i64 0, .int .i64 0, .int .i64 0, .int .i64 0, .int .i64 0] 43))
      have BU := Lib.hid (BT.out.alloc BT.out.size (.cells #[.slice none 0 0, .int .i64 0, .int .i64 0, .int .i64 0, .int .i64 0, .int .i64 0, .int .i64 0, .int .i64 0, .int .i64 0, .int .i64 0, .int .i64 0, .int .i64 0, .int .i64 0, .int .i64 0, .int .i64 0, .int .i64 0] 43))
      go_simp
      refine hK.out _ _ (fun _ => SS _ BU.out) ?_
      clear hK K
      try simp only [Act.put, List.setIfInBounds_toArray, List.set_cons_zero, List.set_cons_succ]
      have NT2 := Lib.hid (Geo.blk_alloc NT.out (.cells #[.slice none 0 0, .int .i64 0, .int .i64 0, .int .i64 0, .int .i64 0, .int .i64 0, .int .i64 0, .int .i64 0, .int .i64 0, .int .i64 0, .int .i64 0, .int .i64 0, .int .i64 0, .int .i64 0, .int .i64 0, .int .i64 0] 43))
      have zU := Lib.hid (show (wT.alloc (.cells #[.slice none 0 0, .int .i64 0, .int .i64 0, .int .i64 0, .int .i64 0, .int .i64 0, .int .i64 0, .int .i64 0, .int .i64 0, .int .i64 0, .int .i64 0, .int .i64 0, .int .i64 0, .int .i64 0, .int .i64 0, .int .i64 0] 43)).heap.size = wT.heap.size + 1 by simp)
      generalize wT.alloc (.cells #[.slice none 0 0, .int .i64 0, .int .i64 0, .int .i64 0, .int .i64 0, .int .i64 0, .int .i64 0, .int .i64 0, .int .i64 0, .int .i64 0, .int .i64 0, .int .i64 0, .int .i64 0, .int .i64 0, .int .i64 0, .int .i64 0] 43) = wU at *
      have N7 := Lib.hid (show wU.heap[wS.heap.size]? = some (.cells #[.slice none 0 0, .int .i64 0, .int .i64 0, .int .i64 0, .int .i64 0, .int .i64 0, .int .i64 0, .int .i64 0, .int .i64 0, .int .i64 0, .int .i64 0, .int .i64 0, .int .i64 0, .int .i64 0, .int .i64 0, .int .i64 0] 43 (0, 0)) from NT2.out)
      have N8 := Lib.hid (show wU.heap[wT.heap.size]? = some (.cells #[.slice none 0 0, .int .i64 0, .int .i64 0, .int .i64 0, .int .i64 0, .int .i64 0, .int .i64 0, .int .i64 0, .int .i64 0, .int .i64 0, .int .i64 0, .int .i64 0, .int .i64 0, .int .i64 0, .int .i64 0, .int .i64 0] 43 (0, 0)) from NU.out)
      have bS := BS.out.size
      have bT := BT.out.size
      have zT' := zT.out
      have ne78 : wS.heap.size ≠ wT.heap.size := by omega
      clear zT'
      refine Late.wpAnyL_oneD (i := 6) (by decide) (by kernel_rfl) (by rfl) (fun K hK => ?_)
      simp only [List.getElem_toArray, List.getElem_cons_zero, List.getElem_cons_succ]
      refine wp_store_row 43 (.tmp 7) (.tmp 13) rfl wS.heap.size #[.slice pa pn pc, .int .i64 X, .int .i64 Y, .int .i64 Z, .int .i64 T, .int .i64 Mi, .int .i64 Lo, .int .i64 A1, .int .i64 A2, .int .i64 A3, .int .i64 A4, .int .i64 A5, .int .i64 A6, .int .i64 L, .int .i64 H, .int .i64 C] rfl rfl 43 #[.slice none 0 0, .int .i64 0, .int .i64 0, .int .i64 0, .int .i64 0, .int .i64 0, .int .i64 0, .int .i64 0, .int .i64 0, .int .i64 0, .int .i64 0, .int .i64 0, .int .i64 0, .int .i64 0, .int .i64 0, .int .i64 0] N7.out rfl rfl (by simp [Value.oneCell']) ?_
      obtain ⟨wV, hwV⟩ : ∃ wV, wV = wU.setRow wS.heap.size #[.slice pa pn pc, .int .i64 X, .int .i64 Y, .int .i64 Z, .int .i64 T, .int .i64 Mi, .int .i64 Lo, .int .i64 A1, .int .i64 A2, .int .i64 A3, .int .i64 A4, .int .i64 A5, .int .i64 A6, .int .i64 L, .int .i64 H, .int .i64 C] := ⟨_, rfl⟩
      have M7 := Lib.hid (show wV.heap[wS.heap.size]? = some (.cells #[.slice pa pn pc, .int .i64 X, .int .i64 Y, .int .i64 Z, .int .i64 T, .int .i64 Mi, .int .i64 Lo, .int .i64 A1, .int .i64 A2, .int .i64 A3, .int .i64 A4, .int .i64 A5, .int .i64 A6, .int .i64 L, .int .i64 H, .int .i64 C] 43 (0, 0)) by rw [hwV]; exact setRow_heap _ _ _ _ _ _ N7.out)
      have M8 := Lib.hid (show wV.heap[wT.heap.size]? = some (.cells #[.slice none 0 0, .int .i64 0, .int .i64 0, .int .i64 0, .int .i64 0, .int .i64 0, .int .i64 0, .int .i64 0, .int .i64 0, .int .i64 0, .int .i64 0, .int .i64 0, .int .i64 0, .int .i64 0, .int .i64 0, .int .i64 0] 43 (0, 0)) by rw [hwV]; exact (setRow_other _ _ _ _ (Ne.symm ne78)).trans N8.out)
      have BV := Lib.hid (show Below w1.heap.size w1 wV by rw [hwV]; exact below_setRow BU.out _ _ (by omega))
      rw [← hwV]
      clear hwV
      refine hK.out _ _ (fun _ => SS _ BV.out) ?_
      clear hK K
      try simp only [Act.put, List.setIfInBounds_toArray, List.set_cons_zero, List.set_cons_succ]
      refine Late.wpAnyL_oneD (i := 7) (by decide) (by kernel_rfl) (by rfl) (fun K hK => ?_)
      simp only [List.getElem_toArray, List.getElem_cons_zero, List.getElem_cons_succ]
      refine wp_store_row 43 (.tmp 8) (.tmp 15) rfl wT.heap.size #[.slice pa' pn' pc', .int .i64 X', .int .i64 Y', .int .i64 Z', .int .i64 T', .int .i64 Mi', .int .i64 Lo', .int .i64 A1', .int .i64 A2', .int .i64 A3', .int .i64 A4', .int .i64 A5', .int .i64 A6', .int .i64 L', .int .i64 H', .int .i64 C'] rfl rfl 43 #[.slice none 0 0, .int .i64 0, .int .i64 0, .int .i64 0, .int .i64 0, .int .i64 0, .int .i64 0, .int .i64 0, .int .i64 0, .int .i64 0, .int .i64 0, .int .i64 0, .int .i64 0, .int .i64 0, .int .i64 0, .int .i64 0] M8.out rfl rfl (by simp [Value.oneCell']) ?_
      obtain ⟨wX, hwX⟩ : ∃ wX, wX = wV.setRow wT.heap.size #[.slice pa' pn' pc', .int .i64 X', .int .i64 Y', .int .i64 Z', .int .i64 T', .int .i64 Mi', .int .i64 Lo', .int .i64 A1', .int .i64 A2', .int .i64 A3', .int .i64 A4', .int .i64 A5', .int .i64 A6', .int .i64 L', .int .i64 H', .int .i64 C'] := ⟨_, rfl⟩
      have O7 := Lib.hid (show wX.heap[wS.heap.size]? = some (.cells #[.slice pa pn pc, .int .i64 X, .int .i64 Y, .int .i64 Z, .int .i64 T, .int .i64 Mi, .int .i64 Lo, .int .i64 A1, .int .i64 A2, .int .i64 A3, .int .i64 A4, .int .i64 A5, .int .i64 A6, .int .i64 L, .int .i64 H, .int .i64 C] 43 (0, 0)) by rw [hwX]; exact (setRow_other _ _ _ _ ne78).trans M7.out)
      have O8 := Lib.hid (show wX.heap[wT.heap.size]? = some (.cells #[.slice pa' pn' pc', .int .i64 X', .int .i64 Y', .int .i64 Z', .int .i64 T', .int .i64 Mi', .int .i64 Lo', .int .i64 A1', .int .i64 A2', .int .i64 A3', .int .i64 A4', .int .i64 A5', .int .i64 A6', .int .i64 L', .int .i64 H', .int .i64 C'] 43 (0, 0)) by rw [hwX]; exact setRow_heap _ _ _ _ _ _ M8.out)
      have BX := Lib.hid (show Below w1.heap.size w1 wX by rw [hwX]; exact below_setRow BV.out _ _ (by omega))
      rw [← hwX]
      clear hwX
      refine hK.out _ _ (fun _ => SS _ BX.out) ?_
      clear hK K
      try simp only [Act.put, List.setIfInBounds_toArray, List.set_cons_zero, List.set_cons_succ]
      refine Late.wpAnyL_done (by kernel_rfl) ?_ _
      refine NoPanic.normal ?_
      go_wp2_with fail
      go_meet
      exact ⟨_, _, rfl, rfl, O7, O8, BX⟩
    · skip
      simp only [List.getElem_toArray, List.getElem_cons_zero, List.getElem_cons_succ]
      have NT := Lib.hid (heap_alloc_new wS (.cells #[.slice none 0 0, .int .i64 0, .int .i64 0, .int .i64 0, .int .i64 0, .int .i64 0, .int .i64 0, .int .i64 0, .int .i64 0, .int .i64 0, .int .i64 0, .int .i64 0, .int .i64 0, .int .i64 0, .int .i64 0, .int .i64 0] 43))
      have BT := Lib.hid (BS.out.alloc BS.out.size (.cells #[.slice none 0 0, .int .i64 0, .int .i64 0, .int .i64 0, .int .i64 0, .int .i64 0, .int .i64 0, .int .i64 0, .int .i64 0, .int .i64 0, .int .i64 0, .int .i64 0, .int .i64 0, .int .i64 0, .int .i64 0, .int .i64 0] 43))
      go_simp
      refine hK.out _ _ (fun _ => SS _ BT.out) ?_
      clear hK K
      try simp only [Act.put, List.setIfInBounds_toArray, List.set_cons_zero, List.set_cons_succ]
      have zT := Lib.hid (show (wS.alloc (.cells #[.slice none 0 0, .int .i64 0, .int .i64 0, .int .i64 0, .int .i64 0, .int .i64 0, .int .i64 0, .int .i64 0, .int .i64 0, .int .i64 0, .int .i64 0, .int .i64 0, .int .i64 0, .int .i64 0, .int .i64 0, .int .i64 0] 43)).heap.size = wS.heap.size + 1 by simp)
      generalize wS.alloc (.cells #[.slice none 0 0, .int .i64 0, .int .i64 0, .int .i64 0, .int .i64 0, .int .i64 0, .int .i64 0, .int .i64 0, .int .i64 0, .int .i64 0, .int .i64 0, .int .i64 0, .int .i64 0, .int .i64 0, .int .i64 0, .int .i64 0] 43) = wT at *
      refine Late.wpAnyL_oneD (i := 4) (by decide) (by kernel_rfl) (by rfl) (fun K hK => ?_)
      simp only [List.getElem_toArray, List.getElem_cons_zero, List.getElem_cons_succ]
      have NU := Lib.hid (heap_alloc_new wT (.cells #[.slice none 0 0, .int .i64 0, .int .i64 0, .int .i64 0, .int .i64 0, .int .i64 0, .int .i64 0, .int .i64 0, .int .i64 0, .int .i64 0, .int .i64 0, .int .i64 0, .int .i64 0, .int .i64 0, .int .i64 0, .int .i64 0] 43))
      have BU := Lib.hid (BT.out.alloc BT.out.size (.cells #[.slice none 0 0, .int .i64 0, .int .i64 0, .int .i64 0, .int .i64 0, .int .i64 0, .int .i64 0, .int .i64 0, .int .i64 0, .int .i64 0, .int .i64 0, .int .i64 0, .int .i64 0, .int .i64 0, .int .i64 0, .int .i64 0] 43))
      go_simp
      refine hK.out _ _ (fun _ => SS _ BU.out) ?_
      clear hK K
      try simp only [Act.put, List.setIfInBounds_toArray, List.set_cons_zero, List.set_cons_succ]
      have NT2 := Lib.hid (Geo.blk_alloc NT.out (.cells #[.slice none 0 0, .int .i64 0, .int .i64 0, .int .i64 0, .int .i64 0, .int .i64 0, .int .i64 0, .int .i64 0, .int .i64 0, .int .i64 0, .int .i64 0, .int .i64 0, .int .i64 0, .int .i64 0, .int .i64 0, .int .i64 0] 43))
      have zU := Lib.hid (show (wT.alloc (.cells #[.slice none 0 0, .int .i64 0, .int .i64 0, .int .i64 0, .int .i64 0, .int .i64 0, .int .i64 0, .int .i64 0, .int .i64 0, .int .i64 0, .int .i64 0, .int .i64 0, .int .i64 0, .int .i64 0, .int .i64 0, .int .i64 0] 43)).heap.size = wT.heap.size + 1 by simp)
      generalize wT.alloc (.cells #[.slice none 0 0, .int .i64 0, .int .i64 0, .int .i64 0, .int .i64 0, .int .i64 0, .int .i64 0, .int .i64 0, .int .i64 0, .int .i64 0, .int .i64 0, .int .i64 0, .int .i64 0, .int .i64 0, .int .i64 0, .int .i64 0] 43) = wU at *
      have N7 := Lib.hid (show wU.heap[wT.heap.size]? = some (.cells #[.slice none 0 0, .int .i64 0, .int .i64 0, .int .i64 0, .int .i64 0, .int .i64 0, .int .i64 0, .int .i64 0, .int .i64 0, .int .i64 0, .int .i64 0, .int .i64 0, .int .i64 0, .int .i64 0, .int .i64 0, .int .i64 0] 43 (0, 0)) from NU.out)
      have N8 := Lib.hid (show wU.heap[wS.heap.size]? = some (.cells #[.slice none 0 0, .int .i64 0, .int .i64 0, .int .i64 0, .int .i64 0, .int .i64 0, .int .i64 0, .int .i64 0, .int .i64 0, .int .i64 0, .int .i64 0, .int .i64 0, .int .i64 0, .int .i64 0, .int .i64 0, .int .i64 0] 43 (0, 0)) from NT2.out)
      have bS := BS.out.size
      have bT := BT.out.size
      have zT' := zT.out
      have ne78 : wT.heap.size ≠ wS.heap.size := by omega
      clear zT'
      refine Late.wpAnyL_oneD (i := 6) (by decide) (by kernel_rfl) (by rfl) (fun K hK => ?_)
      simp only [List.getElem_toArray, List.getElem_cons_zero, List.getElem_cons_succ]
      refine wp_store_row 43 (.tmp 7) (.tmp 13) rfl wT.heap.size #[.slice pa pn pc, .int .i64 X, .int .i64 Y, .int .i64 Z, .int .i64 T, .int .i64 Mi, .int .i64 Lo, .int .i64 A1, .int .i64 A2, .int .i64 A3, .int .i64 A4, .int .i64 A5, .int .i64 A6, .int .i64 L, .int .i64 H, .int .i64 C] rfl rfl 43 #[.slice none 0 0, .int .i64 0, .int .i64 0, .int .i64 0, .int .i64 0, .int .i64 0, .int .i64 0, .int .i64 0, .int .i64 0, .int .i64 0, .int .i64 0, .int .i64 0, .int .i64 0, .int .i64 0, .int .i64 0, .int .i64 0] N7.out rfl rfl (by simp [Value.oneCell']) ?_
      obtain ⟨wV, hwV⟩ : ∃ wV, wV = wU.setRow wT.heap.size #[.slice pa pn pc, .int .i64 X, .int .i64 Y, .int .i64 Z, .int .i64 T, .int .i64 Mi, .int .i64 Lo, .int .i64 A1, .int .i64 A2, .int .i64 A3, .int .i64 A4, .int .i64 A5, .int .i64 A6, .int .i64 L, .int .i64 H, .int .i64 C] := ⟨_, rfl⟩
      have M7 := Lib.hid (show wV.heap[wT.heap.size]? = some (.cells #[.slice pa pn pc, .int .i64 X, .int .i64 Y, .int .i64 Z, .int .i64 T, .int .i64 Mi, .int .i64 Lo, .int .i64 A1, .int .i64 A2, .int .i64 A3, .int .i64 A4, .int .i64 A5, .int .i64 A6, .int .i64 L, .int .i64 H, .int .i64 C] 43 (0, 0)) by rw [hwV]; exact setRow_heap _ _ _ _ _ _ N7.out)
      have M8 := Lib.hid (show wV.heap[wS.heap.size]? = some (.cells #[.slice none 0 0, .int .i64 0, .int .i64 0, .int .i64 0, .int .i64 0, .int .i64 0, .int .i64 0, .int .i64 0, .int .i64 0, .int .i64 0, .int .i64 0, .int .i64 0, .int .i64 0, .int .i64 0, .int .i64 0, .int .i64 0] 43 (0, 0)) by rw [hwV]; exact (setRow_other _ _ _ _ (Ne.symm ne78)).trans N8.out)
      have BV := Lib.hid (show Below w1.heap.size w1 wV by rw [hwV]; exact below_setRow BU.out _ _ (by omega))
      rw [← hwV]
      clear hwV
      refine hK.out _ _ (fun _ => SS _ BV.out) ?_
      clear hK K
      try simp only [Act.put, List.setIfInBounds_toArray, List.set_cons_zero, List.set_cons_succ]
      refine Late.wpAnyL_oneD (i := 7) (by decide) (by kernel_rfl) (by rfl) (fun K hK => ?_)
      simp only [List.getElem_toArray, List.getElem_cons_zero, List.getElem_cons_succ]
      refine wp_store_row 43 (.tmp 8) (.tmp 15) rfl wS.heap.size #[.slice pa' pn' pc', .int .i64 X', .int .i64 Y', .int .i64 Z', .int .i64 T', .int .i64 Mi', .int .i64 Lo', .int .i64 A1', .int .i64 A2', .int .i64 A3', .int .i64 A4', .int .i64 A5', .int .i64 A6', .int .i64 L', .int .i64 H', .int .i64 C'] rfl rfl 43 #[.slice none 0 0, .int .i64 0, .int .i64 0, .int .i64 0, .int .i64 0, .int .i64 0, .int .i64 0, .int .i64 0, .int .i64 0, .int .i64 0, .int .i64 0, .int .i64 0, .int .i64 0, .int .i64 0, .int .i64 0, .int .i64 0] M8.out rfl rfl (by simp [Value.oneCell']) ?_
      obtain ⟨wX, hwX⟩ : ∃ wX, wX = wV.setRow wS.heap.size #[.slice pa' pn' pc', .int .i64 X', .int .i64 Y', .int .i64 Z', .int .i64 T', .int .i64 Mi', .int .i64 Lo', .int .i64 A1', .int .i64 A2', .int .i64 A3', .int .i64 A4', .int .i64 A5', .int .i64 A6', .int .i64 L', .int .i64 H', .int .i64 C'] := ⟨_, rfl⟩
      have O7 := Lib.hid (show wX.heap[wT.heap.size]? = some (.cells #[.slice pa pn pc, .int .i64 X, .int .i64 Y, .int .i64 Z, .int .i64 T, .int .i64 Mi, .int .i64 Lo, .int .i64 A1, .int .i64 A2, .int .i64 A3, .int .i64 A4, .int .i64 A5, .int .i64 A6, .int .i64 L, .int .i64 H, .int .i64 C] 43 (0, 0)) by rw [hwX]; exact (setRow_other _ _ _ _ ne78).trans M7.out)
      have O8 := Lib.hid (show wX.heap[wS.heap.size]? = some (.cells #[.slice pa' pn' pc', .int .i64 X', .int .i64 Y', .int .i64 Z', .int .i64 T', .int .i64 Mi', .int .i64 Lo', .int .i64 A1', .int .i64 A2', .int .i64 A3', .int .i64 A4', .int .i64 A5', .int .i64 A6', .int .i64 L', .int .i64 H', .int .i64 C'] 43 (0, 0)) by rw [hwX]; exact setRow_heap _ _ _ _ _ _ M8.out)
      have BX := Lib.hid (show Below w1.heap.size w1 wX by rw [hwX]; exact below_setRow BV.out _ _ (by omega))
      rw [← hwX]
      clear hwX
      refine hK.out _ _ (fun _ => SS _ BX.out) ?_
      clear hK K
      try simp only [Act.put, List.setIfInBounds_toArray, List.set_cons_zero, List.set_cons_succ]
      refine Late.wpAnyL_done (by kernel_rfl) ?_ _
      refine NoPanic.normal ?_
      go_wp2_with fail
      go_meet
      exact ⟨_, _, rfl, rfl, O7, O8, BX⟩
  case rest =>
    obtain ⟨b7, b8, rfl, rfl, O7, O8, BX⟩ := hcut
    have zx : w.heap.size + 1 + 1 + 1 ≤ wc.heap.size := by have := BX.out.size; omega
    have q0 := Lib.hid fun w' (hC : Below wc.heap.size wc w') => (hC.block _ (by omega)).trans ((BX.out.block _ (by omega)).trans p0.out)
    have q1 := Lib.hid fun w' (hC : Below wc.heap.size wc w') => (hC.block _ (by omega)).trans ((BX.out.block _ (by omega)).trans p1.out)
    have q2 := Lib.hid fun w' (hC : Below wc.heap.size wc w') => (hC.block _ (by omega)).trans ((BX.out.block _ (by omega)).trans p2.out)
    have x7 := Lib.hid fun w' (hC : Below wc.heap.size wc w') => Geo.blk_b hC O7.out
    have x8 := Lib.hid fun w' (hC : Below wc.heap.size wc w') => Geo.blk_b hC O8.out
    have cD := Lib.hid fun w' (hC : Below wc.heap.size wc w') => (tri (q0.out w' hC)).2.1
    have cT := Lib.hid fun w' (hC : Below wc.heap.size wc w') => show w'.cell? ⟨b7, 4, none⟩ = some (.int .i64 T) from cell_of_row w' b7 4 _ _ _ (x7.out w' hC)
    have cT' := Lib.hid fun w' (hC : Below wc.heap.size wc w') => show w'.cell? ⟨b8, 4, none⟩ = some (.int .i64 T') from cell_of_row w' b8 4 _ _ _ (x8.out w' hC)
    have r1 := Lib.hid fun w' (hC : Below wc.heap.size wc w') => show w'.rangeAt b7 1 [.int .i64 X, .int .i64 Y, .int .i64 Z] from rng3 1 (x7.out w' hC) rfl rfl rfl
    have r2 := Lib.hid fun w' (hC : Below wc.heap.size wc w') => show w'.rangeAt b8 1 [.int .i64 X', .int .i64 Y', .int .i64 Z'] from rng3 1 (x8.out w' hC) rfl rfl rfl
    have r3 := Lib.hid fun w' (hC : Below wc.heap.size wc w') => show w'.rangeAt b7 13 [.int .i64 L, .int .i64 H] from rng2 13 (x7.out w' hC) rfl rfl
    have r4 := Lib.hid fun w' (hC : Below wc.heap.size wc w') => show w'.rangeAt b8 13 [.int .i64 L', .int .i64 H'] from rng2 13 (x8.out w' hC) rfl rfl
    have LV1 := Lib.hid fun w' (hC : Below wc.heap.size wc w') => level_any g n c rM rP rF rD Ds Ev s0 s1 s2 s3 n1 n2 n3 n4 n5 pa pn pc X Y Z T Mi Lo A1 A2 A3 A4 A5 A6 L H C w' ((R1.out.below BX.out).below hC) d0 d9 e0 e9
    have LV2 := Lib.hid fun w' (hC : Below wc.heap.size wc w') => level_any g n c rM rP rF rD Ds Ev s0' s1' s2' s3' n1' n2' n3' n4' n5' pa' pn' pc' X' Y' Z' T' Mi' Lo' A1' A2' A3' A4' A5' A6' L' H' C' w' ((R1.out.below BX.out).below hC) d0 d9 e0 e9
    have SQ := Lib.hid fun w' => Geo.square_yes X Y Z X' Y' Z' hp hp' w'
    have AP := fun w' => (apart_any T T' Ds w' t0 t9 t0' t9' d0 d9).mono fun e w2 h => (⟨h.1, h.2 ▸ Below.refl _ _⟩ : e = _ ∧ Below w'.heap.size w' w2)
    have AG := fun w' => agree_any L H L' H' w'
    have WR : Ds ≤ 4194304 → 0 ≤ Ds * Ds ∧ Ds * Ds ≤ 17592186044416 := fun h => by
      have h1 := Int.mul_le_mul h h d0 (by omega)
      have h2 := Int.mul_nonneg d0 d0
      exact ⟨h2, by omega⟩
    replace WR := Lib.hid WR
    obtain ⟨v, hv⟩ : ∃ v, lev (mq rM rP rF pn Mi L C) n = v := ⟨_, rfl⟩
    obtain ⟨v', hv'⟩ : ∃ v, lev (mq rM rP rF pn' Mi' L' C') n = v := ⟨_, rfl⟩
    obtain ⟨SS, hS⟩ : ∃ v, Geo.sq3 X Y Z X' Y' Z' = v := ⟨_, rfl⟩
    rw [hv] at LV1
    rw [hv'] at LV2
    rw [hS] at SQ
    replace hv := Lib.hid hv
    replace hv' := Lib.hid hv'
    replace hS := Lib.hid hS
    clear hp hp' t0 t9 t0' t9' e0 e9 zw1 zx
    by_cases h1 : v = v'
    · subst h1
      by_cases h4 : Ds < max T T' - min T T'
      · rw [decide_eq_true h4] at AP
        replace AP := Lib.hid AP
        replace h4 := Lib.hid h4
        by_cases h2 : Ds ≤ 4194304
        · obtain ⟨pb0, pb1⟩ := WR.out h2
          by_cases h3 : Ds * Ds < SS
          · skip
            go_wp2_with fail
            refine Buf.region_calm wc (by kernel_rfl) (by kernel_rfl) (Below.refl _ _) ?_
            repeat (first
              | (go_big_quiet_want; refine quiet_row 27 (.tmp 3) rfl (w.heap.size) rfl 27 #[.slice (some ⟨g, 0, none⟩) n c, .int .i64 Ds, .int .i64 Ev] (0, 0) _ (fun _ hC => q0.out _ hC) rfl rfl rfl ?_; go_big_quiet_on; try simp only [Act.put, List.setIfInBounds_toArray, List.set_cons_zero, List.set_cons_succ])
              | (go_big_quiet_want; refine quiet_row 45 (.tmp 4) rfl (w.heap.size + 1) rfl 45 #[.string s0, .string s1, .string s2, .string s3, .int .i64 n1, .int .i64 n2, .int .i64 n3, .int .i64 n4, .int .i64 n5, .slice pa pn pc, .int .i64 X, .int .i64 Y, .int .i64 Z, .int .i64 T, .int .i64 Mi, .int .i64 Lo, .int .i64 A1, .int .i64 A2, .int .i64 A3, .int .i64 A4, .int .i64 A5, .int .i64 A6, .int .i64 L, .int .i64 H, .int .i64 C] (0, 0) _ (fun _ hC => q1.out _ hC) rfl rfl rfl ?_; go_big_quiet_on; try simp only [Act.put, List.setIfInBounds_toArray, List.set_cons_zero, List.set_cons_succ])
              | (go_big_quiet_want; refine quiet_row 45 (.tmp 5) rfl (w.heap.size + 1 + 1) rfl 45 #[.string s0', .string s1', .string s2', .string s3', .int .i64 n1', .int .i64 n2', .int .i64 n3', .int .i64 n4', .int .i64 n5', .slice pa' pn' pc', .int .i64 X', .int .i64 Y', .int .i64 Z', .int .i64 T', .int .i64 Mi', .int .i64 Lo', .int .i64 A1', .int .i64 A2', .int .i64 A3', .int .i64 A4', .int .i64 A5', .int .i64 A6', .int .i64 L', .int .i64 H', .int .i64 C'] (0, 0) _ (fun _ hC => q2.out _ hC) rfl rfl rfl ?_; go_big_quiet_on; try simp only [Act.put, List.setIfInBounds_toArray, List.set_cons_zero, List.set_cons_succ])
              | (go_big_quiet_want; refine quiet_mid 35 (.tmp 29) rfl (b7) 1 rfl [.int .i64 X, .int .i64 Y, .int .i64 Z] _ (fun _ hC => r1.out _ hC) rfl rfl rfl ?_; go_big_quiet_on; try simp only [Act.put, List.setIfInBounds_toArray, List.set_cons_zero, List.set_cons_succ])
              | (go_big_quiet_want; refine quiet_mid 35 (.tmp 32) rfl (b8) 1 rfl [.int .i64 X', .int .i64 Y', .int .i64 Z'] _ (fun _ hC => r2.out _ hC) rfl rfl rfl ?_; go_big_quiet_on; try simp only [Act.put, List.setIfInBounds_toArray, List.set_cons_zero, List.set_cons_succ])
              | (go_big_quiet_want; refine quiet_mid 41 (.tmp 55) rfl (b7) 13 rfl [.int .i64 L, .int .i64 H] _ (fun _ hC => r3.out _ hC) rfl rfl rfl ?_; go_big_quiet_on; try simp only [Act.put, List.setIfInBounds_toArray, List.set_cons_zero, List.set_cons_succ])
              | (go_big_quiet_want; refine quiet_mid 41 (.tmp 57) rfl (b8) 13 rfl [.int .i64 L', .int .i64 H'] _ (fun _ hC => r4.out _ hC) rfl rfl rfl ?_; go_big_quiet_on; try simp only [Act.put, List.setIfInBounds_toArray, List.set_cons_zero, List.set_cons_succ])
              | go_big_quiet_step ((intro hC; first
                 | (go_at_call 11; (with_reducible exact Buf.calm hC (LV1.out _ hC)))
                 | (go_at_call 11; (with_reducible exact Buf.calm hC (LV2.out _ hC)))
                 | (go_at_call 23; (with_reducible exact Buf.calm hC (SQ.out _)))
                 | (go_at_call 24; (with_reducible exact Buf.calm hC (AP.out _)))
                 | (go_at_call 25; (with_reducible exact Buf.calm hC (AG.out _)))
                 | rfl
                 | (simp only [cD.out _ hC, Result.andThen_ok]; first | exact ⟨trivial, rfl⟩ | rfl)
                 | (simp only [cT.out _ hC, Result.andThen_ok]; first | exact ⟨trivial, rfl⟩ | rfl)
                 | (simp only [cT'.out _ hC, Result.andThen_ok]; first | exact ⟨trivial, rfl⟩ | rfl))))
            refine wpQuiet_nil ?_
            intro w9 hb9
            go_wp2
            go_ret
            exact ⟨congrArg (fun z => Ending.returned (.bool z)) (show true = Mv _ _ n Ds X Y Z T L H X' Y' Z' T' L' H' from (by unfold Mv; rw [hv.out, hv'.out, hS.out]; exact (decide_eq_true (.inr (.inl ⟨h2, h3⟩))).symm)), Buf.then_ B1.out (Buf.then_ BX.out hb9)⟩
          · have mm3 := decide_eq_false h3
            have nn3 : SS ≤ Ds * Ds := Int.not_lt.1 h3
            go_wp2_with fail
            refine Buf.region_calm wc (by kernel_rfl) (by kernel_rfl) (Below.refl _ _) ?_
            repeat (first
              | (go_big_quiet_want; refine quiet_row 27 (.tmp 3) rfl (w.heap.size) rfl 27 #[.slice (some ⟨g, 0, none⟩) n c, .int .i64 Ds, .int .i64 Ev] (0, 0) _ (fun _ hC => q0.out _ hC) rfl rfl rfl ?_; go_big_quiet_on; try simp only [Act.put, List.setIfInBounds_toArray, List.set_cons_zero, List.set_cons_succ])
              | (go_big_quiet_want; refine quiet_row 45 (.tmp 4) rfl (w.heap.size + 1) rfl 45 #[.string s0, .string s1, .string s2, .string s3, .int .i64 n1, .int .i64 n2, .int .i64 n3, .int .i64 n4, .int .i64 n5, .slice pa pn pc, .int .i64 X, .int .i64 Y, .int .i64 Z, .int .i64 T, .int .i64 Mi, .int .i64 Lo, .int .i64 A1, .int .i64 A2, .int .i64 A3, .int .i64 A4, .int .i64 A5, .int .i64 A6, .int .i64 L, .int .i64 H, .int .i64 C] (0, 0) _ (fun _ hC => q1.out _ hC) rfl rfl rfl ?_; go_big_quiet_on; try simp only [Act.put, List.setIfInBounds_toArray, List.set_cons_zero, List.set_cons_succ])
              | (go_big_quiet_want; refine quiet_row 45 (.tmp 5) rfl (w.heap.size + 1 + 1) rfl 45 #[.string s0', .string s1', .string s2', .string s3', .int .i64 n1', .int .i64 n2', .int .i64 n3', .int .i64 n4', .int .i64 n5', .slice pa' pn' pc', .int .i64 X', .int .i64 Y', .int .i64 Z', .int .i64 T', .int .i64 Mi', .int .i64 Lo', .int .i64 A1', .int .i64 A2', .int .i64 A3', .int .i64 A4', .int .i64 A5', .int .i64 A6', .int .i64 L', .int .i64 H', .int .i64 C'] (0, 0) _ (fun _ hC => q2.out _ hC) rfl rfl rfl ?_; go_big_quiet_on; try simp only [Act.put, List.setIfInBounds_toArray, List.set_cons_zero, List.set_cons_succ])
              | (go_big_quiet_want; refine quiet_mid 35 (.tmp 29) rfl (b7) 1 rfl [.int .i64 X, .int .i64 Y, .int .i64 Z] _ (fun _ hC => r1.out _ hC) rfl rfl rfl ?_; go_big_quiet_on; try simp only [Act.put, List.setIfInBounds_toArray, List.set_cons_zero, List.set_cons_succ])
              | (go_big_quiet_want; refine quiet_mid 35 (.tmp 32) rfl (b8) 1 rfl [.int .i64 X', .int .i64 Y', .int .i64 Z'] _ (fun _ hC => r2.out _ hC) rfl rfl rfl ?_; go_big_quiet_on; try simp only [Act.put, List.setIfInBounds_toArray, List.set_cons_zero, List.set_cons_succ])
              | (go_big_quiet_want; refine quiet_mid 41 (.tmp 55) rfl (b7) 13 rfl [.int .i64 L, .int .i64 H] _ (fun _ hC => r3.out _ hC) rfl rfl rfl ?_; go_big_quiet_on; try simp only [Act.put, List.setIfInBounds_toArray, List.set_cons_zero, List.set_cons_succ])
              | (go_big_quiet_want; refine quiet_mid 41 (.tmp 57) rfl (b8) 13 rfl [.int .i64 L', .int .i64 H'] _ (fun _ hC => r4.out _ hC) rfl rfl rfl ?_; go_big_quiet_on; try simp only [Act.put, List.setIfInBounds_toArray, List.set_cons_zero, List.set_cons_succ])
              | go_big_quiet_step ((intro hC; first
                 | (go_at_call 11; (with_reducible exact Buf.calm hC (LV1.out _ hC)))
                 | (go_at_call 11; (with_reducible exact Buf.calm hC (LV2.out _ hC)))
                 | (go_at_call 23; (with_reducible exact Buf.calm hC (SQ.out _)))
                 | (go_at_call 24; (with_reducible exact Buf.calm hC (AP.out _)))
                 | (go_at_call 25; (with_reducible exact Buf.calm hC (AG.out _)))
                 | rfl
                 | (simp only [cD.out _ hC, Result.andThen_ok]; first | exact ⟨trivial, rfl⟩ | rfl)
                 | (simp only [cT.out _ hC, Result.andThen_ok]; first | exact ⟨trivial, rfl⟩ | rfl)
                 | (simp only [cT'.out _ hC, Result.andThen_ok]; first | exact ⟨trivial, rfl⟩ | rfl))))
            refine wpQuiet_nil ?_
            intro w9 hb9
            go_wp2
            go_ret
            exact ⟨congrArg (fun z => Ending.returned (.bool z)) (show true = Mv _ _ n Ds X Y Z T L H X' Y' Z' T' L' H' from (by unfold Mv; rw [hv.out, hv'.out, hS.out]; exact (decide_eq_true (.inr (.inr (.inl h4.out)))).symm)), Buf.then_ B1.out (Buf.then_ BX.out hb9)⟩
        · have mm2 := decide_eq_false h2
          have nn2 : 4194304 < Ds := Int.not_le.1 h2
          go_wp2_with fail
          refine Buf.region_calm wc (by kernel_rfl) (by kernel_rfl) (Below.refl _ _) ?_
          repeat (first
            | (go_big_quiet_want; refine quiet_row 27 (.tmp 3) rfl (w.heap.size) rfl 27 #[.slice (some ⟨g, 0, none⟩) n c, .int .i64 Ds, .int .i64 Ev] (0, 0) _ (fun _ hC => q0.out _ hC) rfl rfl rfl ?_; go_big_quiet_on; try simp only [Act.put, List.setIfInBounds_toArray, List.set_cons_zero, List.set_cons_succ])
            | (go_big_quiet_want; refine quiet_row 45 (.tmp 4) rfl (w.heap.size + 1) rfl 45 #[.string s0, .string s1, .string s2, .string s3, .int .i64 n1, .int .i64 n2, .int .i64 n3, .int .i64 n4, .int .i64 n5, .slice pa pn pc, .int .i64 X, .int .i64 Y, .int .i64 Z, .int .i64 T, .int .i64 Mi, .int .i64 Lo, .int .i64 A1, .int .i64 A2, .int .i64 A3, .int .i64 A4, .int .i64 A5, .int .i64 A6, .int .i64 L, .int .i64 H, .int .i64 C] (0, 0) _ (fun _ hC => q1.out _ hC) rfl rfl rfl ?_; go_big_quiet_on; try simp only [Act.put, List.setIfInBounds_toArray, List.set_cons_zero, List.set_cons_succ])
            | (go_big_quiet_want; refine quiet_row 45 (.tmp 5) rfl (w.heap.size + 1 + 1) rfl 45 #[.string s0', .string s1', .string s2', .string s3', .int .i64 n1', .int .i64 n2', .int .i64 n3', .int .i64 n4', .int .i64 n5', .slice pa' pn' pc', .int .i64 X', .int .i64 Y', .int .i64 Z', .int .i64 T', .int .i64 Mi', .int .i64 Lo', .int .i64 A1', .int .i64 A2', .int .i64 A3', .int .i64 A4', .int .i64 A5', .int .i64 A6', .int .i64 L', .int .i64 H', .int .i64 C'] (0, 0) _ (fun _ hC => q2.out _ hC) rfl rfl rfl ?_; go_big_quiet_on; try simp only [Act.put, List.setIfInBounds_toArray, List.set_cons_zero, List.set_cons_succ])
            | (go_big_quiet_want; refine quiet_mid 35 (.tmp 29) rfl (b7) 1 rfl [.int .i64 X, .int .i64 Y, .int .i64 Z] _ (fun _ hC => r1.out _ hC) rfl rfl rfl ?_; go_big_quiet_on; try simp only [Act.put, List.setIfInBounds_toArray, List.set_cons_zero, List.set_cons_succ])
            | (go_big_quiet_want; refine quiet_mid 35 (.tmp 32) rfl (b8) 1 rfl [.int .i64 X', .int .i64 Y', .int .i64 Z'] _ (fun _ hC => r2.out _ hC) rfl rfl rfl ?_; go_big_quiet_on; try simp only [Act.put, List.setIfInBounds_toArray, List.set_cons_zero, List.set_cons_succ])
            | (go_big_quiet_want; refine quiet_mid 41 (.tmp 55) rfl (b7) 13 rfl [.int .i64 L, .int .i64 H] _ (fun _ hC => r3.out _ hC) rfl rfl rfl ?_; go_big_quiet_on; try simp only [Act.put, List.setIfInBounds_toArray, List.set_cons_zero, List.set_cons_succ])
            | (go_big_quiet_want; refine quiet_mid 41 (.tmp 57) rfl (b8) 13 rfl [.int .i64 L', .int .i64 H'] _ (fun _ hC => r4.out _ hC) rfl rfl rfl ?_; go_big_quiet_on; try simp only [Act.put, List.setIfInBounds_toArray, List.set_cons_zero, List.set_cons_succ])
            | go_big_quiet_step ((intro hC; first
               | (go_at_call 11; (with_reducible exact Buf.calm hC (LV1.out _ hC)))
               | (go_at_call 11; (with_reducible exact Buf.calm hC (LV2.out _ hC)))
               | (go_at_call 23; (with_reducible exact Buf.calm hC (SQ.out _)))
               | (go_at_call 24; (with_reducible exact Buf.calm hC (AP.out _)))
               | (go_at_call 25; (with_reducible exact Buf.calm hC (AG.out _)))
               | rfl
               | (simp only [cD.out _ hC, Result.andThen_ok]; first | exact ⟨trivial, rfl⟩ | rfl)
               | (simp only [cT.out _ hC, Result.andThen_ok]; first | exact ⟨trivial, rfl⟩ | rfl)
               | (simp only [cT'.out _ hC, Result.andThen_ok]; first | exact ⟨trivial, rfl⟩ | rfl))))
          refine wpQuiet_nil ?_
          intro w9 hb9
          go_wp2
          go_ret
          exact ⟨congrArg (fun z => Ending.returned (.bool z)) (show true = Mv _ _ n Ds X Y Z T L H X' Y' Z' T' L' H' from (by unfold Mv; rw [hv.out, hv'.out, hS.out]; exact (decide_eq_true (.inr (.inr (.inl h4.out)))).symm)), Buf.then_ B1.out (Buf.then_ BX.out hb9)⟩
      · rw [decide_eq_false h4] at AP
        replace AP := Lib.hid AP
        replace h4 := Lib.hid h4
        by_cases h5 : max L L' ≤ min H H'
        · rw [decide_eq_true h5] at AG
          replace AG := Lib.hid AG
          replace h5 := Lib.hid h5
          by_cases h2 : Ds ≤ 4194304
          · obtain ⟨pb0, pb1⟩ := WR.out h2
            by_cases h3 : Ds * Ds < SS
            · skip
              go_wp2_with fail
              refine Buf.region_calm wc (by kernel_rfl) (by kernel_rfl) (Below.refl _ _) ?_
              repeat (first
                | (go_big_quiet_want; refine quiet_row 27 (.tmp 3) rfl (w.heap.size) rfl 27 #[.slice (some ⟨g, 0, none⟩) n c, .int .i64 Ds, .int .i64 Ev] (0, 0) _ (fun _ hC => q0.out _ hC) rfl rfl rfl ?_; go_big_quiet_on; try simp only [Act.put, List.setIfInBounds_toArray, List.set_cons_zero, List.set_cons_succ])
                | (go_big_quiet_want; refine quiet_row 45 (.tmp 4) rfl (w.heap.size + 1) rfl 45 #[.string s0, .string s1, .string s2, .string s3, .int .i64 n1, .int .i64 n2, .int .i64 n3, .int .i64 n4, .int .i64 n5, .slice pa pn pc, .int .i64 X, .int .i64 Y, .int .i64 Z, .int .i64 T, .int .i64 Mi, .int .i64 Lo, .int .i64 A1, .int .i64 A2, .int .i64 A3, .int .i64 A4, .int .i64 A5, .int .i64 A6, .int .i64 L, .int .i64 H, .int .i64 C] (0, 0) _ (fun _ hC => q1.out _ hC) rfl rfl rfl ?_; go_big_quiet_on; try simp only [Act.put, List.setIfInBounds_toArray, List.set_cons_zero, List.set_cons_succ])
                | (go_big_quiet_want; refine quiet_row 45 (.tmp 5) rfl (w.heap.size + 1 + 1) rfl 45 #[.string s0', .string s1', .string s2', .string s3', .int .i64 n1', .int .i64 n2', .int .i64 n3', .int .i64 n4', .int .i64 n5', .slice pa' pn' pc', .int .i64 X', .int .i64 Y', .int .i64 Z', .int .i64 T', .int .i64 Mi', .int .i64 Lo', .int .i64 A1', .int .i64 A2', .int .i64 A3', .int .i64 A4', .int .i64 A5', .int .i64 A6', .int .i64 L', .int .i64 H', .int .i64 C'] (0, 0) _ (fun _ hC => q2.out _ hC) rfl rfl rfl ?_; go_big_quiet_on; try simp only [Act.put, List.setIfInBounds_toArray, List.set_cons_zero, List.set_cons_succ])
                | (go_big_quiet_want; refine quiet_mid 35 (.tmp 29) rfl (b7) 1 rfl [.int .i64 X, .int .i64 Y, .int .i64 Z] _ (fun _ hC => r1.out _ hC) rfl rfl rfl ?_; go_big_quiet_on; try simp only [Act.put, List.setIfInBounds_toArray, List.set_cons_zero, List.set_cons_succ])
                | (go_big_quiet_want; refine quiet_mid 35 (.tmp 32) rfl (b8) 1 rfl [.int .i64 X', .int .i64 Y', .int .i64 Z'] _ (fun _ hC => r2.out _ hC) rfl rfl rfl ?_; go_big_quiet_on; try simp only [Act.put, List.setIfInBounds_toArray, List.set_cons_zero, List.set_cons_succ])
                | (go_big_quiet_want; refine quiet_mid 41 (.tmp 55) rfl (b7) 13 rfl [.int .i64 L, .int .i64 H] _ (fun _ hC => r3.out _ hC) rfl rfl rfl ?_; go_big_quiet_on; try simp only [Act.put, List.setIfInBounds_toArray, List.set_cons_zero, List.set_cons_succ])
                | (go_big_quiet_want; refine quiet_mid 41 (.tmp 57) rfl (b8) 13 rfl [.int .i64 L', .int .i64 H'] _ (fun _ hC => r4.out _ hC) rfl rfl rfl ?_; go_big_quiet_on; try simp only [Act.put, List.setIfInBounds_toArray, List.set_cons_zero, List.set_cons_succ])
                | go_big_quiet_step ((intro hC; first
                   | (go_at_call 11; (with_reducible exact Buf.calm hC (LV1.out _ hC)))
                   | (go_at_call 11; (with_reducible exact Buf.calm hC (LV2.out _ hC)))
                   | (go_at_call 23; (with_reducible exact Buf.calm hC (SQ.out _)))
                   | (go_at_call 24; (with_reducible exact Buf.calm hC (AP.out _)))
                   | (go_at_call 25; (with_reducible exact Buf.calm hC (AG.out _)))
                   | rfl
                   | (simp only [cD.out _ hC, Result.andThen_ok]; first | exact ⟨trivial, rfl⟩ | rfl)
                   | (simp only [cT.out _ hC, Result.andThen_ok]; first | exact ⟨trivial, rfl⟩ | rfl)
                   | (simp only [cT'.out _ hC, Result.andThen_ok]; first | exact ⟨trivial, rfl⟩ | rfl))))
              refine wpQuiet_nil ?_
              intro w9 hb9
              go_wp2
              go_ret
              exact ⟨congrArg (fun z => Ending.returned (.bool z)) (show true = Mv _ _ n Ds X Y Z T L H X' Y' Z' T' L' H' from (by unfold Mv; rw [hv.out, hv'.out, hS.out]; exact (decide_eq_true (.inr (.inl ⟨h2, h3⟩))).symm)), Buf.then_ B1.out (Buf.then_ BX.out hb9)⟩
            · have mm3 := decide_eq_false h3
              have nn3 : SS ≤ Ds * Ds := Int.not_lt.1 h3
              go_wp2_with fail
              refine Buf.region_calm wc (by kernel_rfl) (by kernel_rfl) (Below.refl _ _) ?_
              repeat (first
                | (go_big_quiet_want; refine quiet_row 27 (.tmp 3) rfl (w.heap.size) rfl 27 #[.slice (some ⟨g, 0, none⟩) n c, .int .i64 Ds, .int .i64 Ev] (0, 0) _ (fun _ hC => q0.out _ hC) rfl rfl rfl ?_; go_big_quiet_on; try simp only [Act.put, List.setIfInBounds_toArray, List.set_cons_zero, List.set_cons_succ])
                | (go_big_quiet_want; refine quiet_row 45 (.tmp 4) rfl (w.heap.size + 1) rfl 45 #[.string s0, .string s1, .string s2, .string s3, .int .i64 n1, .int .i64 n2, .int .i64 n3, .int .i64 n4, .int .i64 n5, .slice pa pn pc, .int .i64 X, .int .i64 Y, .int .i64 Z, .int .i64 T, .int .i64 Mi, .int .i64 Lo, .int .i64 A1, .int .i64 A2, .int .i64 A3, .int .i64 A4, .int .i64 A5, .int .i64 A6, .int .i64 L, .int .i64 H, .int .i64 C] (0, 0) _ (fun _ hC => q1.out _ hC) rfl rfl rfl ?_; go_big_quiet_on; try simp only [Act.put, List.setIfInBounds_toArray, List.set_cons_zero, List.set_cons_succ])
                | (go_big_quiet_want; refine quiet_row 45 (.tmp 5) rfl (w.heap.size + 1 + 1) rfl 45 #[.string s0', .string s1', .string s2', .string s3', .int .i64 n1', .int .i64 n2', .int .i64 n3', .int .i64 n4', .int .i64 n5', .slice pa' pn' pc', .int .i64 X', .int .i64 Y', .int .i64 Z', .int .i64 T', .int .i64 Mi', .int .i64 Lo', .int .i64 A1', .int .i64 A2', .int .i64 A3', .int .i64 A4', .int .i64 A5', .int .i64 A6', .int .i64 L', .int .i64 H', .int .i64 C'] (0, 0) _ (fun _ hC => q2.out _ hC) rfl rfl rfl ?_; go_big_quiet_on; try simp only [Act.put, List.setIfInBounds_toArray, List.set_cons_zero, List.set_cons_succ])
                | (go_big_quiet_want; refine quiet_mid 35 (.tmp 29) rfl (b7) 1 rfl [.int .i64 X, .int .i64 Y, .int .i64 Z] _ (fun _ hC => r1.out _ hC) rfl rfl rfl ?_; go_big_quiet_on; try simp only [Act.put, List.setIfInBounds_toArray, List.set_cons_zero, List.set_cons_succ])
                | (go_big_quiet_want; refine quiet_mid 35 (.tmp 32) rfl (b8) 1 rfl [.int .i64 X', .int .i64 Y', .int .i64 Z'] _ (fun _ hC => r2.out _ hC) rfl rfl rfl ?_; go_big_quiet_on; try simp only [Act.put, List.setIfInBounds_toArray, List.set_cons_zero, List.set_cons_succ])
                | (go_big_quiet_want; refine quiet_mid 41 (.tmp 55) rfl (b7) 13 rfl [.int .i64 L, .int .i64 H] _ (fun _ hC => r3.out _ hC) rfl rfl rfl ?_; go_big_quiet_on; try simp only [Act.put, List.setIfInBounds_toArray, List.set_cons_zero, List.set_cons_succ])
                | (go_big_quiet_want; refine quiet_mid 41 (.tmp 57) rfl (b8) 13 rfl [.int .i64 L', .int .i64 H'] _ (fun _ hC => r4.out _ hC) rfl rfl rfl ?_; go_big_quiet_on; try simp only [Act.put, List.setIfInBounds_toArray, List.set_cons_zero, List.set_cons_succ])
                | go_big_quiet_step ((intro hC; first
                   | (go_at_call 11; (with_reducible exact Buf.calm hC (LV1.out _ hC)))
                   | (go_at_call 11; (with_reducible exact Buf.calm hC (LV2.out _ hC)))
                   | (go_at_call 23; (with_reducible exact Buf.calm hC (SQ.out _)))
                   | (go_at_call 24; (with_reducible exact Buf.calm hC (AP.out _)))
                   | (go_at_call 25; (with_reducible exact Buf.calm hC (AG.out _)))
                   | rfl
                   | (simp only [cD.out _ hC, Result.andThen_ok]; first | exact ⟨trivial, rfl⟩ | rfl)
                   | (simp only [cT.out _ hC, Result.andThen_ok]; first | exact ⟨trivial, rfl⟩ | rfl)
                   | (simp only [cT'.out _ hC, Result.andThen_ok]; first | exact ⟨trivial, rfl⟩ | rfl))))
              refine wpQuiet_nil ?_
              intro w9 hb9
              go_wp2
              go_ret
              exact ⟨congrArg (fun z => Ending.returned (.bool z)) (show false = Mv _ _ n Ds X Y Z T L H X' Y' Z' T' L' H' from (by unfold Mv; rw [hv.out, hv'.out, hS.out]; exact (decide_eq_false (fun h => by have a4 := h4.out; have a5 := h5.out; rcases h with h | h | h | h <;> first | exact h rfl | (have hA := h.1; have hB := h.2; omega) | omega | exact h (by omega))).symm)), Buf.then_ B1.out (Buf.then_ BX.out hb9)⟩
          · have mm2 := decide_eq_false h2
            have nn2 : 4194304 < Ds := Int.not_le.1 h2
            go_wp2_with fail
            refine Buf.region_calm wc (by kernel_rfl) (by kernel_rfl) (Below.refl _ _) ?_
            repeat (first
              | (go_big_quiet_want; refine quiet_row 27 (.tmp 3) rfl (w.heap.size) rfl 27 #[.slice (some ⟨g, 0, none⟩) n c, .int .i64 Ds, .int .i64 Ev] (0, 0) _ (fun _ hC => q0.out _ hC) rfl rfl rfl ?_; go_big_quiet_on; try simp only [Act.put, List.setIfInBounds_toArray, List.set_cons_zero, List.set_cons_succ])
              | (go_big_quiet_want; refine quiet_row 45 (.tmp 4) rfl (w.heap.size + 1) rfl 45 #[.string s0, .string s1, .string s2, .string s3, .int .i64 n1, .int .i64 n2, .int .i64 n3, .int .i64 n4, .int .i64 n5, .slice pa pn pc, .int .i64 X, .int .i64 Y, .int .i64 Z, .int .i64 T, .int .i64 Mi, .int .i64 Lo, .int .i64 A1, .int .i64 A2, .int .i64 A3, .int .i64 A4, .int .i64 A5, .int .i64 A6, .int .i64 L, .int .i64 H, .int .i64 C] (0, 0) _ (fun _ hC => q1.out _ hC) rfl rfl rfl ?_; go_big_quiet_on; try simp only [Act.put, List.setIfInBounds_toArray, List.set_cons_zero, List.set_cons_succ])
              | (go_big_quiet_want; refine quiet_row 45 (.tmp 5) rfl (w.heap.size + 1 + 1) rfl 45 #[.string s0', .string s1', .string s2', .string s3', .int .i64 n1', .int .i64 n2', .int .i64 n3', .int .i64 n4', .int .i64 n5', .slice pa' pn' pc', .int .i64 X', .int .i64 Y', .int .i64 Z', .int .i64 T', .int .i64 Mi', .int .i64 Lo', .int .i64 A1', .int .i64 A2', .int .i64 A3', .int .i64 A4', .int .i64 A5', .int .i64 A6', .int .i64 L', .int .i64 H', .int .i64 C'] (0, 0) _ (fun _ hC => q2.out _ hC) rfl rfl rfl ?_; go_big_quiet_on; try simp only [Act.put, List.setIfInBounds_toArray, List.set_cons_zero, List.set_cons_succ])
              | (go_big_quiet_want; refine quiet_mid 35 (.tmp 29) rfl (b7) 1 rfl [.int .i64 X, .int .i64 Y, .int .i64 Z] _ (fun _ hC => r1.out _ hC) rfl rfl rfl ?_; go_big_quiet_on; try simp only [Act.put, List.setIfInBounds_toArray, List.set_cons_zero, List.set_cons_succ])
              | (go_big_quiet_want; refine quiet_mid 35 (.tmp 32) rfl (b8) 1 rfl [.int .i64 X', .int .i64 Y', .int .i64 Z'] _ (fun _ hC => r2.out _ hC) rfl rfl rfl ?_; go_big_quiet_on; try simp only [Act.put, List.setIfInBounds_toArray, List.set_cons_zero, List.set_cons_succ])
              | (go_big_quiet_want; refine quiet_mid 41 (.tmp 55) rfl (b7) 13 rfl [.int .i64 L, .int .i64 H] _ (fun _ hC => r3.out _ hC) rfl rfl rfl ?_; go_big_quiet_on; try simp only [Act.put, List.setIfInBounds_toArray, List.set_cons_zero, List.set_cons_succ])
              | (go_big_quiet_want; refine quiet_mid 41 (.tmp 57) rfl (b8) 13 rfl [.int .i64 L', .int .i64 H'] _ (fun _ hC => r4.out _ hC) rfl rfl rfl ?_; go_big_quiet_on; try simp only [Act.put, List.setIfInBounds_toArray, List.set_cons_zero, List.set_cons_succ])
              | go_big_quiet_step ((intro hC; first
                 | (go_at_call 11; (with_reducible exact Buf.calm hC (LV1.out _ hC)))
                 | (go_at_call 11; (with_reducible exact Buf.calm hC (LV2.out _ hC)))
                 | (go_at_call 23; (with_reducible exact Buf.calm hC (SQ.out _)))
                 | (go_at_call 24; (with_reducible exact Buf.calm hC (AP.out _)))
                 | (go_at_call 25; (with_reducible exact Buf.calm hC (AG.out _)))
                 | rfl
                 | (simp only [cD.out _ hC, Result.andThen_ok]; first | exact ⟨trivial, rfl⟩ | rfl)
                 | (simp only [cT.out _ hC, Result.andThen_ok]; first | exact ⟨trivial, rfl⟩ | rfl)
                 | (simp only [cT'.out _ hC, Result.andThen_ok]; first | exact ⟨trivial, rfl⟩ | rfl))))
            refine wpQuiet_nil ?_
            intro w9 hb9
            go_wp2
            go_ret
            exact ⟨congrArg (fun z => Ending.returned (.bool z)) (show false = Mv _ _ n Ds X Y Z T L H X' Y' Z' T' L' H' from (by unfold Mv; rw [hv.out, hv'.out, hS.out]; exact (decide_eq_false (fun h => by have a4 := h4.out; have a5 := h5.out; rcases h with h | h | h | h <;> first | exact h rfl | (have hA := h.1; have hB := h.2; omega) | omega | exact h (by omega))).symm)), Buf.then_ B1.out (Buf.then_ BX.out hb9)⟩
        · rw [decide_eq_false h5] at AG
          replace AG := Lib.hid AG
          replace h5 := Lib.hid h5
          by_cases h2 : Ds ≤ 4194304
          · obtain ⟨pb0, pb1⟩ := WR.out h2
            by_cases h3 : Ds * Ds < SS
            · skip
              go_wp2_with fail
              refine Buf.region_calm wc (by kernel_rfl) (by kernel_rfl) (Below.refl _ _) ?_
              repeat (first
                | (go_big_quiet_want; refine quiet_row 27 (.tmp 3) rfl (w.heap.size) rfl 27 #[.slice (some ⟨g, 0, none⟩) n c, .int .i64 Ds, .int .i64 Ev] (0, 0) _ (fun _ hC => q0.out _ hC) rfl rfl rfl ?_; go_big_quiet_on; try simp only [Act.put, List.setIfInBounds_toArray, List.set_cons_zero, List.set_cons_succ])
                | (go_big_quiet_want; refine quiet_row 45 (.tmp 4) rfl (w.heap.size + 1) rfl 45 #[.string s0, .string s1, .string s2, .string s3, .int .i64 n1, .int .i64 n2, .int .i64 n3, .int .i64 n4, .int .i64 n5, .slice pa pn pc, .int .i64 X, .int .i64 Y, .int .i64 Z, .int .i64 T, .int .i64 Mi, .int .i64 Lo, .int .i64 A1, .int .i64 A2, .int .i64 A3, .int .i64 A4, .int .i64 A5, .int .i64 A6, .int .i64 L, .int .i64 H, .int .i64 C] (0, 0) _ (fun _ hC => q1.out _ hC) rfl rfl rfl ?_; go_big_quiet_on; try simp only [Act.put, List.setIfInBounds_toArray, List.set_cons_zero, List.set_cons_succ])
                | (go_big_quiet_want; refine quiet_row 45 (.tmp 5) rfl (w.heap.size + 1 + 1) rfl 45 #[.string s0', .string s1', .string s2', .string s3', .int .i64 n1', .int .i64 n2', .int .i64 n3', .int .i64 n4', .int .i64 n5', .slice pa' pn' pc', .int .i64 X', .int .i64 Y', .int .i64 Z', .int .i64 T', .int .i64 Mi', .int .i64 Lo', .int .i64 A1', .int .i64 A2', .int .i64 A3', .int .i64 A4', .int .i64 A5', .int .i64 A6', .int .i64 L', .int .i64 H', .int .i64 C'] (0, 0) _ (fun _ hC => q2.out _ hC) rfl rfl rfl ?_; go_big_quiet_on; try simp only [Act.put, List.setIfInBounds_toArray, List.set_cons_zero, List.set_cons_succ])
                | (go_big_quiet_want; refine quiet_mid 35 (.tmp 29) rfl (b7) 1 rfl [.int .i64 X, .int .i64 Y, .int .i64 Z] _ (fun _ hC => r1.out _ hC) rfl rfl rfl ?_; go_big_quiet_on; try simp only [Act.put, List.setIfInBounds_toArray, List.set_cons_zero, List.set_cons_succ])
                | (go_big_quiet_want; refine quiet_mid 35 (.tmp 32) rfl (b8) 1 rfl [.int .i64 X', .int .i64 Y', .int .i64 Z'] _ (fun _ hC => r2.out _ hC) rfl rfl rfl ?_; go_big_quiet_on; try simp only [Act.put, List.setIfInBounds_toArray, List.set_cons_zero, List.set_cons_succ])
                | (go_big_quiet_want; refine quiet_mid 41 (.tmp 55) rfl (b7) 13 rfl [.int .i64 L, .int .i64 H] _ (fun _ hC => r3.out _ hC) rfl rfl rfl ?_; go_big_quiet_on; try simp only [Act.put, List.setIfInBounds_toArray, List.set_cons_zero, List.set_cons_succ])
                | (go_big_quiet_want; refine quiet_mid 41 (.tmp 57) rfl (b8) 13 rfl [.int .i64 L', .int .i64 H'] _ (fun _ hC => r4.out _ hC) rfl rfl rfl ?_; go_big_quiet_on; try simp only [Act.put, List.setIfInBounds_toArray, List.set_cons_zero, List.set_cons_succ])
                | go_big_quiet_step ((intro hC; first
                   | (go_at_call 11; (with_reducible exact Buf.calm hC (LV1.out _ hC)))
                   | (go_at_call 11; (with_reducible exact Buf.calm hC (LV2.out _ hC)))
                   | (go_at_call 23; (with_reducible exact Buf.calm hC (SQ.out _)))
                   | (go_at_call 24; (with_reducible exact Buf.calm hC (AP.out _)))
                   | (go_at_call 25; (with_reducible exact Buf.calm hC (AG.out _)))
                   | rfl
                   | (simp only [cD.out _ hC, Result.andThen_ok]; first | exact ⟨trivial, rfl⟩ | rfl)
                   | (simp only [cT.out _ hC, Result.andThen_ok]; first | exact ⟨trivial, rfl⟩ | rfl)
                   | (simp only [cT'.out _ hC, Result.andThen_ok]; first | exact ⟨trivial, rfl⟩ | rfl))))
              refine wpQuiet_nil ?_
              intro w9 hb9
              go_wp2
              go_ret
              exact ⟨congrArg (fun z => Ending.returned (.bool z)) (show true = Mv _ _ n Ds X Y Z T L H X' Y' Z' T' L' H' from (by unfold Mv; rw [hv.out, hv'.out, hS.out]; exact (decide_eq_true (.inr (.inl ⟨h2, h3⟩))).symm)), Buf.then_ B1.out (Buf.then_ BX.out hb9)⟩
            · have mm3 := decide_eq_false h3
              have nn3 : SS ≤ Ds * Ds := Int.not_lt.1 h3
              go_wp2_with fail
              refine Buf.region_calm wc (by kernel_rfl) (by kernel_rfl) (Below.refl _ _) ?_
              repeat (first
                | (go_big_quiet_want; refine quiet_row 27 (.tmp 3) rfl (w.heap.size) rfl 27 #[.slice (some ⟨g, 0, none⟩) n c, .int .i64 Ds, .int .i64 Ev] (0, 0) _ (fun _ hC => q0.out _ hC) rfl rfl rfl ?_; go_big_quiet_on; try simp only [Act.put, List.setIfInBounds_toArray, List.set_cons_zero, List.set_cons_succ])
                | (go_big_quiet_want; refine quiet_row 45 (.tmp 4) rfl (w.heap.size + 1) rfl 45 #[.string s0, .string s1, .string s2, .string s3, .int .i64 n1, .int .i64 n2, .int .i64 n3, .int .i64 n4, .int .i64 n5, .slice pa pn pc, .int .i64 X, .int .i64 Y, .int .i64 Z, .int .i64 T, .int .i64 Mi, .int .i64 Lo, .int .i64 A1, .int .i64 A2, .int .i64 A3, .int .i64 A4, .int .i64 A5, .int .i64 A6, .int .i64 L, .int .i64 H, .int .i64 C] (0, 0) _ (fun _ hC => q1.out _ hC) rfl rfl rfl ?_; go_big_quiet_on; try simp only [Act.put, List.setIfInBounds_toArray, List.set_cons_zero, List.set_cons_succ])
                | (go_big_quiet_want; refine quiet_row 45 (.tmp 5) rfl (w.heap.size + 1 + 1) rfl 45 #[.string s0', .string s1', .string s2', .string s3', .int .i64 n1', .int .i64 n2', .int .i64 n3', .int .i64 n4', .int .i64 n5', .slice pa' pn' pc', .int .i64 X', .int .i64 Y', .int .i64 Z', .int .i64 T', .int .i64 Mi', .int .i64 Lo', .int .i64 A1', .int .i64 A2', .int .i64 A3', .int .i64 A4', .int .i64 A5', .int .i64 A6', .int .i64 L', .int .i64 H', .int .i64 C'] (0, 0) _ (fun _ hC => q2.out _ hC) rfl rfl rfl ?_; go_big_quiet_on; try simp only [Act.put, List.setIfInBounds_toArray, List.set_cons_zero, List.set_cons_succ])
                | (go_big_quiet_want; refine quiet_mid 35 (.tmp 29) rfl (b7) 1 rfl [.int .i64 X, .int .i64 Y, .int .i64 Z] _ (fun _ hC => r1.out _ hC) rfl rfl rfl ?_; go_big_quiet_on; try simp only [Act.put, List.setIfInBounds_toArray, List.set_cons_zero, List.set_cons_succ])
                | (go_big_quiet_want; refine quiet_mid 35 (.tmp 32) rfl (b8) 1 rfl [.int .i64 X', .int .i64 Y', .int .i64 Z'] _ (fun _ hC => r2.out _ hC) rfl rfl rfl ?_; go_big_quiet_on; try simp only [Act.put, List.setIfInBounds_toArray, List.set_cons_zero, List.set_cons_succ])
                | (go_big_quiet_want; refine quiet_mid 41 (.tmp 55) rfl (b7) 13 rfl [.int .i64 L, .int .i64 H] _ (fun _ hC => r3.out _ hC) rfl rfl rfl ?_; go_big_quiet_on; try simp only [Act.put, List.setIfInBounds_toArray, List.set_cons_zero, List.set_cons_succ])
                | (go_big_quiet_want; refine quiet_mid 41 (.tmp 57) rfl (b8) 13 rfl [.int .i64 L', .int .i64 H'] _ (fun _ hC => r4.out _ hC) rfl rfl rfl ?_; go_big_quiet_on; try simp only [Act.put, List.setIfInBounds_toArray, List.set_cons_zero, List.set_cons_succ])
                | go_big_quiet_step ((intro hC; first
                   | (go_at_call 11; (with_reducible exact Buf.calm hC (LV1.out _ hC)))
                   | (go_at_call 11; (with_reducible exact Buf.calm hC (LV2.out _ hC)))
                   | (go_at_call 23; (with_reducible exact Buf.calm hC (SQ.out _)))
                   | (go_at_call 24; (with_reducible exact Buf.calm hC (AP.out _)))
                   | (go_at_call 25; (with_reducible exact Buf.calm hC (AG.out _)))
                   | rfl
                   | (simp only [cD.out _ hC, Result.andThen_ok]; first | exact ⟨trivial, rfl⟩ | rfl)
                   | (simp only [cT.out _ hC, Result.andThen_ok]; first | exact ⟨trivial, rfl⟩ | rfl)
                   | (simp only [cT'.out _ hC, Result.andThen_ok]; first | exact ⟨trivial, rfl⟩ | rfl))))
              refine wpQuiet_nil ?_
              intro w9 hb9
              go_wp2
              go_ret
              exact ⟨congrArg (fun z => Ending.returned (.bool z)) (show true = Mv _ _ n Ds X Y Z T L H X' Y' Z' T' L' H' from (by unfold Mv; rw [hv.out, hv'.out, hS.out]; exact (decide_eq_true (.inr (.inr (.inr (by have a5 := h5.out; omega))))).symm)), Buf.then_ B1.out (Buf.then_ BX.out hb9)⟩
          · have mm2 := decide_eq_false h2
            have nn2 : 4194304 < Ds := Int.not_le.1 h2
            go_wp2_with fail
            refine Buf.region_calm wc (by kernel_rfl) (by kernel_rfl) (Below.refl _ _) ?_
            repeat (first
              | (go_big_quiet_want; refine quiet_row 27 (.tmp 3) rfl (w.heap.size) rfl 27 #[.slice (some ⟨g, 0, none⟩) n c, .int .i64 Ds, .int .i64 Ev] (0, 0) _ (fun _ hC => q0.out _ hC) rfl rfl rfl ?_; go_big_quiet_on; try simp only [Act.put, List.setIfInBounds_toArray, List.set_cons_zero, List.set_cons_succ])
              | (go_big_quiet_want; refine quiet_row 45 (.tmp 4) rfl (w.heap.size + 1) rfl 45 #[.string s0, .string s1, .string s2, .string s3, .int .i64 n1, .int .i64 n2, .int .i64 n3, .int .i64 n4, .int .i64 n5, .slice pa pn pc, .int .i64 X, .int .i64 Y, .int .i64 Z, .int .i64 T, .int .i64 Mi, .int .i64 Lo, .int .i64 A1, .int .i64 A2, .int .i64 A3, .int .i64 A4, .int .i64 A5, .int .i64 A6, .int .i64 L, .int .i64 H, .int .i64 C] (0, 0) _ (fun _ hC => q1.out _ hC) rfl rfl rfl ?_; go_big_quiet_on; try simp only [Act.put, List.setIfInBounds_toArray, List.set_cons_zero, List.set_cons_succ])
              | (go_big_quiet_want; refine quiet_row 45 (.tmp 5) rfl (w.heap.size + 1 + 1) rfl 45 #[.string s0', .string s1', .string s2', .string s3', .int .i64 n1', .int .i64 n2', .int .i64 n3', .int .i64 n4', .int .i64 n5', .slice pa' pn' pc', .int .i64 X', .int .i64 Y', .int .i64 Z', .int .i64 T', .int .i64 Mi', .int .i64 Lo', .int .i64 A1', .int .i64 A2', .int .i64 A3', .int .i64 A4', .int .i64 A5', .int .i64 A6', .int .i64 L', .int .i64 H', .int .i64 C'] (0, 0) _ (fun _ hC => q2.out _ hC) rfl rfl rfl ?_; go_big_quiet_on; try simp only [Act.put, List.setIfInBounds_toArray, List.set_cons_zero, List.set_cons_succ])
              | (go_big_quiet_want; refine quiet_mid 35 (.tmp 29) rfl (b7) 1 rfl [.int .i64 X, .int .i64 Y, .int .i64 Z] _ (fun _ hC => r1.out _ hC) rfl rfl rfl ?_; go_big_quiet_on; try simp only [Act.put, List.setIfInBounds_toArray, List.set_cons_zero, List.set_cons_succ])
              | (go_big_quiet_want; refine quiet_mid 35 (.tmp 32) rfl (b8) 1 rfl [.int .i64 X', .int .i64 Y', .int .i64 Z'] _ (fun _ hC => r2.out _ hC) rfl rfl rfl ?_; go_big_quiet_on; try simp only [Act.put, List.setIfInBounds_toArray, List.set_cons_zero, List.set_cons_succ])
              | (go_big_quiet_want; refine quiet_mid 41 (.tmp 55) rfl (b7) 13 rfl [.int .i64 L, .int .i64 H] _ (fun _ hC => r3.out _ hC) rfl rfl rfl ?_; go_big_quiet_on; try simp only [Act.put, List.setIfInBounds_toArray, List.set_cons_zero, List.set_cons_succ])
              | (go_big_quiet_want; refine quiet_mid 41 (.tmp 57) rfl (b8) 13 rfl [.int .i64 L', .int .i64 H'] _ (fun _ hC => r4.out _ hC) rfl rfl rfl ?_; go_big_quiet_on; try simp only [Act.put, List.setIfInBounds_toArray, List.set_cons_zero, List.set_cons_succ])
              | go_big_quiet_step ((intro hC; first
                 | (go_at_call 11; (with_reducible exact Buf.calm hC (LV1.out _ hC)))
                 | (go_at_call 11; (with_reducible exact Buf.calm hC (LV2.out _ hC)))
                 | (go_at_call 23; (with_reducible exact Buf.calm hC (SQ.out _)))
                 | (go_at_call 24; (with_reducible exact Buf.calm hC (AP.out _)))
                 | (go_at_call 25; (with_reducible exact Buf.calm hC (AG.out _)))
                 | rfl
                 | (simp only [cD.out _ hC, Result.andThen_ok]; first | exact ⟨trivial, rfl⟩ | rfl)
                 | (simp only [cT.out _ hC, Result.andThen_ok]; first | exact ⟨trivial, rfl⟩ | rfl)
                 | (simp only [cT'.out _ hC, Result.andThen_ok]; first | exact ⟨trivial, rfl⟩ | rfl))))
            refine wpQuiet_nil ?_
            intro w9 hb9
            go_wp2
            go_ret
            exact ⟨congrArg (fun z => Ending.returned (.bool z)) (show true = Mv _ _ n Ds X Y Z T L H X' Y' Z' T' L' H' from (by unfold Mv; rw [hv.out, hv'.out, hS.out]; exact (decide_eq_true (.inr (.inr (.inr (by have a5 := h5.out; omega))))).symm)), Buf.then_ B1.out (Buf.then_ BX.out hb9)⟩
    · have k1 : ((v : Int) == (v' : Int)) = false := by simp; omega
      have k2 : ((v : Int) != (v' : Int)) = true := by simp; omega
      have k3 : decide ((v : Int) = (v' : Int)) = false := by simp; omega
      go_wp2_with fail
      refine Buf.region_calm wc (by kernel_rfl) (by kernel_rfl) (Below.refl _ _) ?_
      repeat (first
        | (go_big_quiet_want; refine quiet_row 27 (.tmp 3) rfl (w.heap.size) rfl 27 #[.slice (some ⟨g, 0, none⟩) n c, .int .i64 Ds, .int .i64 Ev] (0, 0) _ (fun _ hC => q0.out _ hC) rfl rfl rfl ?_; go_big_quiet_on; try simp only [Act.put, List.setIfInBounds_toArray, List.set_cons_zero, List.set_cons_succ])
        | (go_big_quiet_want; refine quiet_row 45 (.tmp 4) rfl (w.heap.size + 1) rfl 45 #[.string s0, .string s1, .string s2, .string s3, .int .i64 n1, .int .i64 n2, .int .i64 n3, .int .i64 n4, .int .i64 n5, .slice pa pn pc, .int .i64 X, .int .i64 Y, .int .i64 Z, .int .i64 T, .int .i64 Mi, .int .i64 Lo, .int .i64 A1, .int .i64 A2, .int .i64 A3, .int .i64 A4, .int .i64 A5, .int .i64 A6, .int .i64 L, .int .i64 H, .int .i64 C] (0, 0) _ (fun _ hC => q1.out _ hC) rfl rfl rfl ?_; go_big_quiet_on; try simp only [Act.put, List.setIfInBounds_toArray, List.set_cons_zero, List.set_cons_succ])
        | (go_big_quiet_want; refine quiet_row 45 (.tmp 5) rfl (w.heap.size + 1 + 1) rfl 45 #[.string s0', .string s1', .string s2', .string s3', .int .i64 n1', .int .i64 n2', .int .i64 n3', .int .i64 n4', .int .i64 n5', .slice pa' pn' pc', .int .i64 X', .int .i64 Y', .int .i64 Z', .int .i64 T', .int .i64 Mi', .int .i64 Lo', .int .i64 A1', .int .i64 A2', .int .i64 A3', .int .i64 A4', .int .i64 A5', .int .i64 A6', .int .i64 L', .int .i64 H', .int .i64 C'] (0, 0) _ (fun _ hC => q2.out _ hC) rfl rfl rfl ?_; go_big_quiet_on; try simp only [Act.put, List.setIfInBounds_toArray, List.set_cons_zero, List.set_cons_succ])
        | (go_big_quiet_want; refine quiet_mid 35 (.tmp 29) rfl (b7) 1 rfl [.int .i64 X, .int .i64 Y, .int .i64 Z] _ (fun _ hC => r1.out _ hC) rfl rfl rfl ?_; go_big_quiet_on; try simp only [Act.put, List.setIfInBounds_toArray, List.set_cons_zero, List.set_cons_succ])
        | (go_big_quiet_want; refine quiet_mid 35 (.tmp 32) rfl (b8) 1 rfl [.int .i64 X', .int .i64 Y', .int .i64 Z'] _ (fun _ hC => r2.out _ hC) rfl rfl rfl ?_; go_big_quiet_on; try simp only [Act.put, List.setIfInBounds_toArray, List.set_cons_zero, List.set_cons_succ])
        | (go_big_quiet_want; refine quiet_mid 41 (.tmp 55) rfl (b7) 13 rfl [.int .i64 L, .int .i64 H] _ (fun _ hC => r3.out _ hC) rfl rfl rfl ?_; go_big_quiet_on; try simp only [Act.put, List.setIfInBounds_toArray, List.set_cons_zero, List.set_cons_succ])
        | (go_big_quiet_want; refine quiet_mid 41 (.tmp 57) rfl (b8) 13 rfl [.int .i64 L', .int .i64 H'] _ (fun _ hC => r4.out _ hC) rfl rfl rfl ?_; go_big_quiet_on; try simp only [Act.put, List.setIfInBounds_toArray, List.set_cons_zero, List.set_cons_succ])
        | go_big_quiet_step ((intro hC; first
           | (go_at_call 11; (with_reducible exact Buf.calm hC (LV1.out _ hC)))
           | (go_at_call 11; (with_reducible exact Buf.calm hC (LV2.out _ hC)))
           | (go_at_call 23; (with_reducible exact Buf.calm hC (SQ.out _)))
           | (go_at_call 24; (with_reducible exact Buf.calm hC (AP.out _)))
           | (go_at_call 25; (with_reducible exact Buf.calm hC (AG.out _)))
           | rfl
           | (simp only [cD.out _ hC, Result.andThen_ok]; first | exact ⟨trivial, rfl⟩ | rfl)
           | (simp only [cT.out _ hC, Result.andThen_ok]; first | exact ⟨trivial, rfl⟩ | rfl)
           | (simp only [cT'.out _ hC, Result.andThen_ok]; first | exact ⟨trivial, rfl⟩ | rfl))))
      refine wpQuiet_nil ?_
      intro w9 hb9
      go_wp2
      go_ret
      exact ⟨congrArg (fun z => Ending.returned (.bool z)) (show true = Mv _ _ n Ds X Y Z T L H X' Y' Z' T' L' H' from (by unfold Mv; rw [hv.out, hv'.out, hS.out]; exact (decide_eq_true (.inl h1)).symm)), Buf.then_ B1.out (Buf.then_ BX.out hb9)⟩
end Ru
end Go.Proofs.Yticjmblajloefaa
