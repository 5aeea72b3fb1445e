/- LlGQ: texts joined. -/
import Derived.Test.YtldgihlhioeipaaGreatLocMF
import Derived.Test.YtldgihlhioeipaaGreatGeoQ
import Derived.Test.YtldgihlhioeipaaGreatRTU
import Derived.Test.YtldgihlhioeipaaGreatQuiet
import Derived.Test.YtldgihlhioeipaaGreatMisRN
import Derived.Test.YtldgihlhioeipaaGreatGeoL
import Derived.Test.YtldgihlhioeipaaGreatResMid
import Derived.Lib.MinMax
import Derived.Test.YtldgihlhioeipaaGreatMisE
import Derived.Laws.StructEq
import Derived.Laws.ResultCell
/- The search: its memory; add. -/
set_option linter.unusedVariables false
set_option linter.unusedSimpArgs false
namespace Go.Proofs.YtldgihlhioeipaaGreat
open Go.RowKit Qt
namespace Loc
/-- What a problem holds beside its region. -/
structure Pq where
  s : Int
  b1 : Nat
  n : Nat
  c1 : Nat
  b2 : Nat
  n2 : Nat
  c2 : Nat
  gp : Nat
  nl : Nat
  cc : Nat
  cap : Int
def box6 (B : Bx) : List Value := [.int .i64 B.a, .int .i64 B.b, .int .i64 B.c, .int .i64 B.d, .int .i64 B.e, .int .i64 B.f]
def prb (R : Bx) (q : Pq) : List Value := [.int .i64 R.a, .int .i64 R.b, .int .i64 R.c, .int .i64 R.d, .int .i64 R.e, .int .i64 R.f, .int .i64 q.s, .slice (some ⟨q.b1, 0, none⟩) q.n q.c1, .slice (some ⟨q.b2, 0, none⟩) q.n2 q.c2, .slice (some ⟨q.gp, 0, none⟩) q.nl q.cc, .int .i64 q.cap]
/-- What the walk asks of a problem, in all worlds behind A. -/
structure Pr (A : World) (Ak : Ask) (R : Bx) (q : Pq) : Prop where
  bound : ∀ w, Below A.heap.size A w → ∀ B, Sb R B → Calls Tryz.prog 57 #[.agg (prb R q).toArray, .agg (box6 B).toArray] w fun e w' => e = .returned (.tuple #[.int .i64 (Ak.F B), .int .i64 0]) ∧ Below w.heap.size w w'
  at_ : ∀ w, Below A.heap.size A w → ∀ p, inB R p → Calls Tryz.prog 13 #[.agg (prb R q).toArray, .agg #[.int .i64 p.1, .int .i64 p.2.1, .int .i64 p.2.2]] w fun e w' => e = .returned (.tuple #[.int .i64 (Ak.G p).1, .int .i64 (Ak.G p).2, .int .i64 0]) ∧ Below w.heap.size w w'
  vl : ∀ w, Below A.heap.size A w → Calls Tryz.prog 35 #[.agg (prb R q).toArray] w fun e w' => e = .returned (.int .i64 0) ∧ Below w.heap.size w w'
  sp : ∀ B, Sb R B → one B = false → ∀ w, Calls Tryz.prog 62 #[.agg (box6 B).toArray] w fun e w' => e = .returned (.tuple #[.agg (box6 (Ak.S B).1).toArray, .agg (box6 (Ak.S B).2).toArray, .bool true]) ∧ Below w.heap.size w w'
  good : Good Ak R
  bv : ∀ B, Sb R B → Geo.BV B.a B.b B.c B.d B.e B.f
  f0 : ∀ B, Sb R B → 0 ≤ Ak.F B ∧ Ak.F B ≤ 1125899906842624
  g0 : ∀ p, inB R p → 0 ≤ (Ak.G p).2 ∧ (Ak.G p).2 ≤ 1125899906842624
  few : 2 * np R - 1 ≤ 60000
def CS (R : Bx) (q : Pq) (st : St) (v : Value) : Array Value := #[.int .i64 R.a, .int .i64 R.b, .int .i64 R.c, .int .i64 R.d, .int .i64 R.e, .int .i64 R.f, .int .i64 q.s, .slice (some ⟨q.b1, 0, none⟩) q.n q.c1, .slice (some ⟨q.b2, 0, none⟩) q.n2 q.c2, .slice (some ⟨q.gp, 0, none⟩) q.nl q.cc, .int .i64 q.cap, v, .int .i64 st.nx, .int .i64 st.tk, .bool st.fd, .int .i64 st.x, .int .i64 st.y, .int .i64 st.z, .int .i64 st.t, .int .i64 st.m, .int .i64 0, .int .i64 0, .int .i64 0, .int .i64 0, .int .i64 0, .int .i64 0, .int .i64 0]
theorem cs_at (R : Bx) (q : Pq) (st : St) : At11 (CS R q st) := fun v => ⟨rfl, fun u => rfl⟩
/-- A search in memory. -/
def SM (A : World) (S : Nat) (R : Bx) (q : Pq) (w : World) (v : Value) (st : St) : Prop := QM A S (CS R q st) w v st.op
theorem SM.below {A w w' : World} {S : Nat} {R : Bx} {q : Pq} {v : Value} {st : St} (h : SM A S R q w v st) (hb : Below w.heap.size w w') : SM A S R q w' v st := QM.below h hb
theorem SM.cell {A w : World} {S : Nat} {R : Bx} {q : Pq} {v : Value} {st : St} (h : SM A S R q w v st) (k : Nat) (u : Value) (hu : (CS R q st v)[k]? = some u) : w.cell? ⟨S, k, none⟩ = some u := (cell_of_row w S k _ _ _ h.blk).trans hu
theorem SM.queue {A w : World} {S : Nat} {R : Bx} {q : Pq} {v : Value} {st : St} {L : List OB} (h : QM A S (CS R q st) w v L) : SM A S R q w v { st with op := L } := h
/-- The same queue, other cells. -/
theorem SM.other {A w : World} {S : Nat} {R : Bx} {q : Pq} {v : Value} {st st' : St} (h : SM A S R q w v st) (k : Nat) (u : Value) (hc : (CS R q st v).setIfInBounds k u = CS R q st' v) (ho : st'.op = st.op) : SM A S R q (w.setCell ⟨S, k, none⟩ u) v st' := by
  refine ⟨h.bel.setCell h.ge _, h.ge, by rw [heap_setCell_same w S k _ _ _ h.blk, hc], ?_⟩
  rw [ho]
  exact h.own.same fun j hj => Below.heap_setCell w _ _ j (fun e => own_ne8 h.own h.blk (by rw [hj, e]))
set_option maxHeartbeats 8000000 in
set_option maxRecDepth 100000 in
theorem add_any {A w : World} {Ak : Ask} {R : Bx} {q : Pq} (P : Pr A Ak R q) {S : Nat} {v : Value} {st : St} (h : SM A S R q w v st) (B : Bx) (hB : Sb R B) (hlen : st.op.length ≤ 900000) (n0 : 0 ≤ st.nx) (n9 : st.nx ≤ 1000000) :
    Calls Tryz.prog 36 #[.pointer (some ⟨S, 0, none⟩), .agg #[.int .i64 B.a, .int .i64 B.b, .int .i64 B.c, .int .i64 B.d, .int .i64 B.e, .int .i64 B.f]] w fun e w' => e = .returned (.int .i64 0) ∧ ∃ v', SM A S R q w' v' (add Ak st B) ∧ Fr w w' := by
  have H := Lib.hid h
  have hC := cs_at R q st
  have KB := Lib.hid fun w' (h' : Below w.heap.size w w') => P.bound w' (Buf.then_ h.bel h') B hB
  clear h P
  go_enter Tryz.func36, Tryz.ntmps36
  go_upto_region 1 with fail
  have K3 := Lib.hid (heap_alloc_new w (.cells #[.int .i64 B.a, .int .i64 B.b, .int .i64 B.c, .int .i64 B.d, .int .i64 B.e, .int .i64 B.f] 28))
  have H1 := Lib.hid (H.out.below (Mis.new_block (.cells #[.int .i64 B.a, .int .i64 B.b, .int .i64 B.c, .int .i64 B.d, .int .i64 B.e, .int .i64 B.f] 28)))
  have B1 := Mis.new_block (w := w) (.cells #[.int .i64 B.a, .int .i64 B.b, .int .i64 B.c, .int .i64 B.d, .int .i64 B.e, .int .i64 B.f] 28)
  obtain ⟨w1, hw1⟩ : ∃ z, z = w.alloc (.cells #[.int .i64 B.a, .int .i64 B.b, .int .i64 B.c, .int .i64 B.d, .int .i64 B.e, .int .i64 B.f] 28) := ⟨_, rfl⟩
  rw [← hw1] at K3 H1 B1 ⊢
  obtain ⟨p3, hp3⟩ : ∃ z, z = w.heap.size := ⟨_, rfl⟩
  rw [← hp3] at K3 ⊢
  have KB1 := Lib.hid fun w' (h' : Below w1.heap.size w1 w') => KB.out w' (Buf.then_ B1 h')
  have RP : Hid (∀ w', Below w1.heap.size w1 w' → w'.rangeAt S 0 (prb R q)) := Lib.hid fun w' h' => Mid.range (H1.out.below h').blk 0 (prb R q) (by rfl)
  have RB : Hid (∀ w', Below w1.heap.size w1 w' → w'.heap[p3]? = some (.cells #[.int .i64 B.a, .int .i64 B.b, .int .i64 B.c, .int .i64 B.d, .int .i64 B.e, .int .i64 B.f] 28 (0, 0))) := Lib.hid fun w' h' => Mis.hb h' K3.out
  have BB1 := Lib.hid B1
  clear hw1 hp3 B1 KB H
  refine Buf.region_calm w1 (by kernel_rfl) (by kernel_rfl) (Below.refl _ _) ?_
  repeat (first
    | (go_big_quiet_want; refine quiet_mid 33 (.tmp 10) rfl S 0 rfl (prb R q) _ (fun _ hC => RP.out _ hC) rfl rfl rfl ?_; go_big_quiet_on; try simp only [Act.put, List.setIfInBounds_toArray, List.set_cons_zero, List.set_cons_succ])
    | (go_big_quiet_want; refine quiet_row 28 (.tmp 3) rfl p3 rfl 28 (box6 B).toArray (0, 0) _ (fun _ hC => RB.out _ hC) rfl rfl rfl ?_; go_big_quiet_on; try simp only [Act.put, List.setIfInBounds_toArray, List.set_cons_zero, List.set_cons_succ])
    | go_big_quiet_step ((intro hC; first
       | (go_at_call 57; (with_reducible exact Buf.calm hC (KB1.out _ hC)))
       | rfl)))
  refine wpQuiet_nil ?_
  intro w5 b5
  have M5 := Lib.hid (H1.out.below b5)
  have FR5 := Lib.hid ((Fr.below BB1.out).trans (Fr.below b5))
  have K5 := Lib.hid (Mis.hb b5 K3.out)
  clear b5 KB1 RP RB K3 H1
  go_upto_region 4 with fail
  have K3 := K5
  have NX : Hid (∀ w', Below w5.heap.size w5 w' → w'.cell? ⟨S, 12, none⟩ = some (.int .i64 st.nx)) := Lib.hid fun w' h' => (M5.out.below h').cell 12 _ rfl
  have hw0 : Below w5.heap.size w5 w5.drew := (Below.refl _ _).drew
  refine wp_region_noPanic ?_
  refine wp_region_any (by kernel_rfl) ?_
  refine Inv.wpAny_inv (fun k => k == 12) [19, 20, 21, 22, 23, 24, 25, 26, 27, 28, 29, 30] (fun w' => Below w5.heap.size w5 w') (fun _ w1 w2 => Below w1.heap.size w1 w2) (fun k => ([fun v_ w_ => v_ = .pointer (some ⟨S, 0, none⟩), fun v_ w_ => v_ = .pointer (some ⟨S, 0, none⟩), fun v_ w_ => v_ = .pointer (some ⟨S, 11, none⟩), fun v_ w_ => v_ = .iface 108 (.pointer (some ⟨S, 11, none⟩)), fun v_ w_ => v_ = .agg #[.int .i64 B.a, .int .i64 B.b, .int .i64 B.c, .int .i64 B.d, .int .i64 B.e, .int .i64 B.f], fun v_ w_ => v_ = .int .i64 (Ak.F B), fun v_ w_ => v_ = .pointer (some ⟨S, 0, none⟩), fun v_ w_ => v_ = .pointer (some ⟨S, 0, none⟩), fun v_ w_ => v_ = .pointer (some ⟨S, 12, none⟩), fun v_ w_ => v_ = .int .i64 st.nx, fun v_ w_ => v_ = .agg #[.int .i64 B.a, .int .i64 B.b, .int .i64 B.c, .int .i64 B.d, .int .i64 B.e, .int .i64 B.f, .int .i64 (Ak.F B), .int .i64 st.nx], fun v_ w_ => v_ = .iface 64 (.agg #[.int .i64 B.a, .int .i64 B.b, .int .i64 B.c, .int .i64 B.d, .int .i64 B.e, .int .i64 B.f, .int .i64 (Ak.F B), .int .i64 st.nx]), fun v_ w_ => True] : List (Value → World → Prop)).getD k (fun _ _ => True)) _ (fun σ => by simp only [Inv.putAll, List.foldl_cons, List.foldl_nil, Act.put, List.setIfInBounds_toArray, List.set_cons_zero, List.set_cons_succ]; rfl) (by kernel_rfl) (by kernel_rfl) ?_ hw0 ?_ ?_ 1 #[true, true, true, true, true, true, true, true, true, true, true, true, false] (by kernel_rfl) (by kernel_rfl) ?_
  · intro j k v w1 w2 hjk hv hr
    rcases k with _ | k
    · exact hv
    rcases k with _ | k
    · exact hv
    rcases k with _ | k
    · exact hv
    rcases k with _ | k
    · exact hv
    rcases k with _ | k
    · exact hv
    rcases k with _ | k
    · exact hv
    rcases k with _ | k
    · exact hv
    rcases k with _ | k
    · exact hv
    rcases k with _ | k
    · exact hv
    rcases k with _ | k
    · exact hv
    rcases k with _ | k
    · exact hv
    rcases k with _ | k
    · exact hv
    rcases k with _ | k
    · exact hv
    · exact hv
  · intro k t hl hd
    rcases k with _ | k
    · exact absurd hl (by decide +kernel)
    rcases k with _ | k
    · exact absurd hl (by decide +kernel)
    rcases k with _ | k
    · exact absurd hl (by decide +kernel)
    rcases k with _ | k
    · exact absurd hl (by decide +kernel)
    rcases k with _ | k
    · exact absurd hl (by decide +kernel)
    rcases k with _ | k
    · exact absurd hl (by decide +kernel)
    rcases k with _ | k
    · exact absurd hl (by decide +kernel)
    rcases k with _ | k
    · exact absurd hl (by decide +kernel)
    rcases k with _ | k
    · exact absurd hl (by decide +kernel)
    rcases k with _ | k
    · exact absurd hl (by decide +kernel)
    rcases k with _ | k
    · exact absurd hl (by decide +kernel)
    rcases k with _ | k
    · exact absurd hl (by decide +kernel)
    rcases k with _ | k
    · exact absurd hl (by decide +kernel)
    · simp at hd
  · show Inv.Steps _ _ _ _ _ _ _ _ [0, 1, 2, 3, 4, 5, 6, 7, 8, 9, 10, 11]
    refine Inv.Steps.go (by decide) (by rfl) (fun σ wx hw hd K hK => ?_) ?_
    · simp only [List.getElem_toArray, List.getElem_cons_zero, List.getElem_cons_succ, Act.put, List.setIfInBounds_toArray, List.set_cons_zero, List.set_cons_succ] at hK ⊢
      go_simp
      exact hK.out _ _ hw (Below.refl _ _) (rfl)
    refine Inv.Steps.go (by decide) (by rfl) (fun σ wx hw hd K hK => ?_) ?_
    · obtain e19 : (σ 19) = .pointer (some ⟨S, 0, none⟩) := hd 0 (some 19) (by kernel_rfl) (by rfl)
      simp only [List.getElem_toArray, List.getElem_cons_zero, List.getElem_cons_succ, Act.put, List.setIfInBounds_toArray, List.set_cons_zero, List.set_cons_succ, e19] at hK ⊢
      go_simp
      exact hK.out _ _ hw (Below.refl _ _) (rfl)
    refine Inv.Steps.go (by decide) (by rfl) (fun σ wx hw hd K hK => ?_) ?_
    · obtain e20 : (σ 20) = .pointer (some ⟨S, 0, none⟩) := hd 1 (some 20) (by kernel_rfl) (by rfl)
      simp only [List.getElem_toArray, List.getElem_cons_zero, List.getElem_cons_succ, Act.put, List.setIfInBounds_toArray, List.set_cons_zero, List.set_cons_succ, e20] at hK ⊢
      go_simp
      exact hK.out _ _ hw (Below.refl _ _) (rfl)
    refine Inv.Steps.go (by decide) (by rfl) (fun σ wx hw hd K hK => ?_) ?_
    · obtain e21 : (σ 21) = .pointer (some ⟨S, 11, none⟩) := hd 2 (some 21) (by kernel_rfl) (by rfl)
      simp only [List.getElem_toArray, List.getElem_cons_zero, List.getElem_cons_succ, Act.put, List.setIfInBounds_toArray, List.set_cons_zero, List.set_cons_succ, e21] at hK ⊢
      go_simp
      exact hK.out _ _ hw (Below.refl _ _) (rfl)
    refine Inv.Steps.go (by decide) (by rfl) (fun σ wx hw hd K hK => ?_) ?_
    · simp only [List.getElem_toArray, List.getElem_cons_zero, List.getElem_cons_succ, Act.put, List.setIfInBounds_toArray, List.set_cons_zero, List.set_cons_succ] at hK ⊢
      have K3x := Mis.hb hw K3.out
      refine wp_load_row 28 (.tmp 3) rfl p3 rfl 28 #[.int .i64 B.a, .int .i64 B.b, .int .i64 B.c, .int .i64 B.d, .int .i64 B.e, .int .i64 B.f] (0, 0) _ K3x rfl rfl rfl ?_
      simp only [Act.put, List.setIfInBounds_toArray, List.set_cons_zero, List.set_cons_succ]
      exact hK.out _ _ hw (Below.refl _ _) (rfl)
    refine Inv.Steps.go (by decide) (by rfl) (fun σ wx hw hd K hK => ?_) ?_
    · simp only [List.getElem_toArray, List.getElem_cons_zero, List.getElem_cons_succ, Act.put, List.setIfInBounds_toArray, List.set_cons_zero, List.set_cons_succ] at hK ⊢
      go_simp
      exact hK.out _ _ hw (Below.refl _ _) (rfl)
    refine Inv.Steps.go (by decide) (by rfl) (fun σ wx hw hd K hK => ?_) ?_
    · simp only [List.getElem_toArray, List.getElem_cons_zero, List.getElem_cons_succ, Act.put, List.setIfInBounds_toArray, List.set_cons_zero, List.set_cons_succ] at hK ⊢
      go_simp
      exact hK.out _ _ hw (Below.refl _ _) (rfl)
    refine Inv.Steps.go (by decide) (by rfl) (fun σ wx hw hd K hK => ?_) ?_
    · obtain e25 : (σ 25) = .pointer (some ⟨S, 0, none⟩) := hd 6 (some 25) (by kernel_rfl) (by rfl)
      simp only [List.getElem_toArray, List.getElem_cons_zero, List.getElem_cons_succ, Act.put, List.setIfInBounds_toArray, List.set_cons_zero, List.set_cons_succ, e25] at hK ⊢
      go_simp
      exact hK.out _ _ hw (Below.refl _ _) (rfl)
    refine Inv.Steps.go (by decide) (by rfl) (fun σ wx hw hd K hK => ?_) ?_
    · obtain e26 : (σ 26) = .pointer (some ⟨S, 0, none⟩) := hd 7 (some 26) (by kernel_rfl) (by rfl)
      simp only [List.getElem_toArray, List.getElem_cons_zero, List.getElem_cons_succ, Act.put, List.setIfInBounds_toArray, List.set_cons_zero, List.set_cons_succ, e26] at hK ⊢
      go_simp
      exact hK.out _ _ hw (Below.refl _ _) (rfl)
    refine Inv.Steps.go (by decide) (by rfl) (fun σ wx hw hd K hK => ?_) ?_
    · obtain e27 : (σ 27) = .pointer (some ⟨S, 12, none⟩) := hd 8 (some 27) (by kernel_rfl) (by rfl)
      simp only [List.getElem_toArray, List.getElem_cons_zero, List.getElem_cons_succ, Act.put, List.setIfInBounds_toArray, List.set_cons_zero, List.set_cons_succ, e27] at hK ⊢
      have c12 := NX.out _ hw
      go_simp
      exact hK.out _ _ hw (Below.refl _ _) (rfl)
    refine Inv.Steps.go (by decide) (by rfl) (fun σ wx hw hd K hK => ?_) ?_
    · obtain e23 : (σ 23) = .agg #[.int .i64 B.a, .int .i64 B.b, .int .i64 B.c, .int .i64 B.d, .int .i64 B.e, .int .i64 B.f] := hd 4 (some 23) (by kernel_rfl) (by rfl)
      obtain e24 : (σ 24) = .int .i64 (Ak.F B) := hd 5 (some 24) (by kernel_rfl) (by rfl)
      obtain e28 : (σ 28) = .int .i64 st.nx := hd 9 (some 28) (by kernel_rfl) (by rfl)
      simp only [List.getElem_toArray, List.getElem_cons_zero, List.getElem_cons_succ, Act.put, List.setIfInBounds_toArray, List.set_cons_zero, List.set_cons_succ, e23, e24, e28] at hK ⊢
      go_simp
      exact hK.out _ _ hw (Below.refl _ _) (rfl)
    refine Inv.Steps.go (by decide) (by rfl) (fun σ wx hw hd K hK => ?_) ?_
    · obtain e29 : (σ 29) = .agg #[.int .i64 B.a, .int .i64 B.b, .int .i64 B.c, .int .i64 B.d, .int .i64 B.e, .int .i64 B.f, .int .i64 (Ak.F B), .int .i64 st.nx] := hd 10 (some 29) (by kernel_rfl) (by rfl)
      simp only [List.getElem_toArray, List.getElem_cons_zero, List.getElem_cons_succ, Act.put, List.setIfInBounds_toArray, List.set_cons_zero, List.set_cons_succ, e29] at hK ⊢
      go_simp
      exact hK.out _ _ hw (Below.refl _ _) (rfl)
    exact Inv.Steps.nil
  · intro σ wx hw hd
    obtain e22 : (σ 22) = .iface 108 (.pointer (some ⟨S, 11, none⟩)) := hd 3 (some 22) (by kernel_rfl) (by rfl)
    obtain e30 : (σ 30) = .iface 64 (.agg #[.int .i64 B.a, .int .i64 B.b, .int .i64 B.c, .int .i64 B.d, .int .i64 B.e, .int .i64 B.f, .int .i64 (Ak.F B), .int .i64 st.nx]) := hd 11 (some 30) (by kernel_rfl) (by rfl)
    simp only [e22, e30]
    refine Inv.one (i := 12) (by decide) (by kernel_rfl) (by rfl) (fun K hK => ?_)
    simp only [List.getElem_toArray, List.getElem_cons_zero, List.getElem_cons_succ, Act.put, List.setIfInBounds_toArray, List.set_cons_zero, List.set_cons_succ] at hK ⊢
    go_simp
    go_at_call 58
    refine (hpush_any hC (M5.out.below hw) hlen ⟨B.a, B.b, B.c, B.d, B.e, B.f, Ak.F B, st.nx⟩).mono ?_
    rintro e w6 ⟨rfl, v6, h6, fr6⟩
    dsimp only
    refine hK.out _ _ ?_
    clear hK
    refine Inv.done (by kernel_rfl) (NoPanic.normal ?_)
    have M6 := Lib.hid h6
    have FR := Lib.hid (FR5.out.trans ((Fr.below hw).trans (fr6.trans (Fr.cell h6.blk 12 (.int .i64 (st.nx + 1))))))
    clear h6 hd hw e22 e30 fr6
    have c12 := (SM.queue M6.out).cell 12 (.int .i64 st.nx) rfl
    have f12 := frozen_of_row w6 S 12 _ _ M6.out.blk
    clear hC hlen
    go_wp2_with fail
    go_ret
    exact ⟨rfl, _, (SM.queue M6.out).other (st' := add Ak st B) 12 (.int .i64 (st.nx + 1)) rfl rfl, FR.out⟩
end Loc
end Go.Proofs.YtldgihlhioeipaaGreat

/- search.ended, search.consider. -/
set_option linter.unusedVariables false
set_option linter.unusedSimpArgs false
namespace Go.Proofs.YtldgihlhioeipaaGreat
open Go.RowKit Qt
namespace Loc
theorem SM.others {A w : World} {S : Nat} {R : Bx} {q : Pq} {v : Value} {st st' : St} (h : SM A S R q w v st) (k : Nat) (vs : List Value) (hc : Mid.setMany (CS R q st v) k vs = CS R q st' v) (ho : st'.op = st.op) : SM A S R q (w.setCells S k vs) v st' := by
  refine ⟨Mid.below _ _ _ h.ge _ _ _ h.bel, h.ge, by rw [Mid.heap_set _ _ _ _ _ _ h.blk, hc], ?_⟩
  rw [ho]
  exact h.own.same fun j hj => Mid.other _ _ (fun e => own_ne8 h.own h.blk (by rw [hj, e])) _ _ _
set_option maxHeartbeats 8000000 in
set_option maxRecDepth 100000 in
theorem ended_any {A w : World} {S : Nat} {R : Bx} {q : Pq} {v : Value} {st : St} (h : SM A S R q w v st) (hn : st.op.length ≤ 900000) (tol : Int) (t0 : 0 ≤ tol) (t9 : tol ≤ 1000000) (m0 : 0 ≤ st.m) (m9 : st.m ≤ 1125899906842624) (b0 : 0 ≤ (g st.op 0).bd) (b9 : (g st.op 0).bd ≤ 1125899906842624) :
    Calls Tryz.prog 37 #[.pointer (some ⟨S, 0, none⟩), .int .i64 tol] w fun e w' => e = .returned (.bool (ended tol st)) ∧ Below w.heap.size w w' := by
  obtain ⟨ad, n, c, rfl, hnl⟩ := Mis.own_letter h.own
  have c11 := h.cell 11 (.slice ad n c) rfl
  have c14 := h.cell 14 (.bool st.fd) rfl
  have c19 := h.cell 19 (.int .i64 st.m) rfl
  obtain ⟨r, hr⟩ : ∃ r, r = ended tol st := ⟨_, rfl⟩
  rw [← hr]
  unfold ended at hr
  by_cases hz : st.op.length = 0
  · rw [decide_eq_true hz, Bool.true_or] at hr
    subst hr
    have hn0 : n = 0 := by rw [hnl.out]; exact hz
    subst hn0
    clear h hnl hz b0 b9
    go_enter Tryz.func37, Tryz.ntmps37
    go_wp2_with fail
    go_quiet (fail)
    go_wp2_with fail
    go_ret
    exact ⟨rfl, Buf.below_drewN (Below.refl _ _) _⟩
  · rw [decide_eq_false hz, Bool.false_or] at hr
    obtain ⟨b, rfl, hl, _, _⟩ := h.own.addr (by omega)
    have d0 : ((n : Int) == 0) = false := by simp; omega
    have n1 : 0 < n := by omega
    have n2 : (0 : Int) < (n : Int) := by omega
    have cb := h.own.cell (k := 0) (by omega) 6 (.int .i64 (g st.op 0).bd) rfl
    simp only [Nat.zero_mul, Nat.zero_add] at cb
    generalize (g st.op 0).bd = bd at *
    generalize st.fd = fd at *
    generalize st.m = m at *
    clear h hnl hz hl
    cases fd with
    | false =>
      rw [Bool.false_and] at hr
      subst hr
      go_enter Tryz.func37, Tryz.ntmps37
      go_wp2_with fail
      go_quiet (fail)
      go_wp2_with fail
      go_ret
      exact ⟨rfl, Buf.below_drewN (Below.refl _ _) _⟩
    | true =>
      rw [Bool.true_and] at hr
      have e1 : IntKind.i64.wrap (m - bd) = m - bd := IntWalk.i64_in _ (by omega)
      replace hr := Lib.hid hr
      go_enter Tryz.func37, Tryz.ntmps37
      go_wp2_with fail
      go_quiet (fail)
      go_wp2_with fail
      go_ret
      exact ⟨by rw [hr.out]; rfl, Buf.below_drewN (Below.refl _ _) _⟩
end Loc
end Go.Proofs.YtldgihlhioeipaaGreat

/- search.consider. -/
set_option linter.unusedVariables false
set_option linter.unusedSimpArgs false
namespace Go.Proofs.YtldgihlhioeipaaGreat
open Go.RowKit Qt
namespace Loc
theorem lex_cmp (a b c d e f : Int) : decide (Geo.cmp3 (Geo.cmpI a d) (Geo.cmpI b e) (Geo.cmpI c f) < 0) = lex3 (a, b, c) (d, e, f) := by
  unfold lex3 Geo.cmp3 Geo.cmpI
  simp only
  by_cases h1 : a = d
  · subst h1
    by_cases h2 : b = e
    · subst h2
      by_cases h3 : c < f
      · simp [h3]
      · by_cases h4 : f < c <;> simp [h3, h4]
    · by_cases h3 : b < e
      · simp [h2, h3]
      · have h4 : e < b := by omega
        simp [h2, h3, h4]
  · by_cases h3 : a < d
    · simp [h1, h3]
    · have h4 : d < a := by omega
      simp [h1, h3, h4]
set_option maxHeartbeats 8000000 in
set_option maxRecDepth 100000 in
theorem consider_any {A w : World} {Ak : Ask} {R : Bx} {q : Pq} (P : Pr A Ak R q) {S : Nat} {v : Value} {st : St} (h : SM A S R q w v st) (p : P3) (hp : inB R p) :
    Calls Tryz.prog 60 #[.pointer (some ⟨S, 0, none⟩), .agg #[.int .i64 p.1, .int .i64 p.2.1, .int .i64 p.2.2]] w fun e w' => e = .returned (.int .i64 0) ∧ SM A S R q w' v (consider Ak st p) ∧ Fr w w' := by
  have H := Lib.hid h
  have KA := Lib.hid fun w' (h' : Below w.heap.size w w') => P.at_ w' (Buf.then_ h.bel h') p hp
  clear h P hp
  go_enter Tryz.func60, Tryz.ntmps60
  go_upto_region 1 with fail
  have K3 := Lib.hid (heap_alloc_new w (.cells #[.int .i64 p.1, .int .i64 p.2.1, .int .i64 p.2.2] 26))
  have H1 := Lib.hid (H.out.below (Mis.new_block (.cells #[.int .i64 p.1, .int .i64 p.2.1, .int .i64 p.2.2] 26)))
  have B1 := Mis.new_block (w := w) (.cells #[.int .i64 p.1, .int .i64 p.2.1, .int .i64 p.2.2] 26)
  obtain ⟨w1, hw1⟩ : ∃ z, z = w.alloc (.cells #[.int .i64 p.1, .int .i64 p.2.1, .int .i64 p.2.2] 26) := ⟨_, rfl⟩
  rw [← hw1] at K3 H1 B1 ⊢
  obtain ⟨p3, hp3⟩ : ∃ z, z = w.heap.size := ⟨_, rfl⟩
  rw [← hp3] at K3 ⊢
  have KA1 := Lib.hid fun w' (h' : Below w1.heap.size w1 w') => KA.out w' (Buf.then_ B1 h')
  have RP : Hid (∀ w', Below w1.heap.size w1 w' → w'.rangeAt S 0 (prb R q)) := Lib.hid fun w' h' => Mid.range (H1.out.below h').blk 0 (prb R q) (by rfl)
  have RB : Hid (∀ w', Below w1.heap.size w1 w' → w'.heap[p3]? = some (.cells #[.int .i64 p.1, .int .i64 p.2.1, .int .i64 p.2.2] 26 (0, 0))) := Lib.hid fun w' h' => Mis.hb h' K3.out
  have BB1 := Lib.hid B1
  clear hw1 hp3 B1 KA H
  refine Buf.region_calm w1 (by kernel_rfl) (by kernel_rfl) (Below.refl _ _) ?_
  repeat (first
    | (go_big_quiet_want; refine quiet_mid 33 (.tmp 11) rfl S 0 rfl (prb R q) _ (fun _ hC => RP.out _ hC) rfl rfl rfl ?_; go_big_quiet_on; try simp only [Act.put, List.setIfInBounds_toArray, List.set_cons_zero, List.set_cons_succ])
    | (go_big_quiet_want; refine quiet_row 26 (.tmp 3) rfl p3 rfl 26 #[.int .i64 p.1, .int .i64 p.2.1, .int .i64 p.2.2] (0, 0) _ (fun _ hC => RB.out _ hC) rfl rfl rfl ?_; go_big_quiet_on; try simp only [Act.put, List.setIfInBounds_toArray, List.set_cons_zero, List.set_cons_succ])
    | go_big_quiet_step ((intro hC; first
       | (go_at_call 13; (with_reducible exact Buf.calm hC (KA1.out _ hC)))
       | rfl)))
  refine wpQuiet_nil ?_
  intro w5 b5
  have M5 := Lib.hid (H1.out.below b5)
  have FR5 := Lib.hid ((Fr.below BB1.out).trans (Fr.below b5))
  have K5 := Lib.hid (Mis.hb b5 K3.out)
  clear b5 KA1 RP RB K3 H1
  obtain ⟨r, hr⟩ : ∃ r, r = better Ak st p := ⟨_, rfl⟩
  have hcon : Hid (consider Ak st p = if r = true then { st with fd := true, x := p.1, y := p.2.1, z := p.2.2, t := (Ak.G p).1, m := (Ak.G p).2 } else st) := Lib.hid (by rw [hr]; rfl)
  unfold better at hr
  go_upto_region 4 with fail
  have c14 := Lib.hid fun w' (h' : Below w5.heap.size w5 w') => (M5.out.below h').cell 14 (.bool st.fd) rfl
  have c19 := Lib.hid fun w' (h' : Below w5.heap.size w5 w') => (M5.out.below h').cell 19 (.int .i64 st.m) rfl
  have RB : Hid (∀ w', Below w5.heap.size w5 w' → w'.heap[p3]? = some (.cells #[.int .i64 p.1, .int .i64 p.2.1, .int .i64 p.2.2] 26 (0, 0))) := Lib.hid fun w' h' => Mis.hb h' K5.out
  have RQ : Hid (∀ w', Below w5.heap.size w5 w' → w'.rangeAt S 15 [.int .i64 st.x, .int .i64 st.y, .int .i64 st.z]) := Lib.hid fun w' h' => Mid.range (M5.out.below h').blk 15 _ (by rfl)
  have KC := Lib.hid fun w' (h' : Below w5.heap.size w5 w') => Geo.compare_any p.1 p.2.1 p.2.2 st.x st.y st.z w'
  obtain ⟨lx, hlx⟩ : ∃ l, l = Geo.cmp3 (Geo.cmpI p.1 st.x) (Geo.cmpI p.2.1 st.y) (Geo.cmpI p.2.2 st.z) := ⟨_, rfl⟩
  have hll : lex3 p (st.x, st.y, st.z) = decide (lx < 0) := by rw [hlx, lex_cmp]
  rw [hll] at hr
  rw [← hlx] at KC
  replace KC := Lib.hid KC.out
  clear hlx hll
  obtain ⟨fd, hfd⟩ : ∃ f, f = st.fd := ⟨_, rfl⟩
  obtain ⟨m, hm⟩ : ∃ f, f = st.m := ⟨_, rfl⟩
  obtain ⟨t, ht⟩ : ∃ f, f = (Ak.G p).1 := ⟨_, rfl⟩
  obtain ⟨cost, hcost⟩ : ∃ f, f = (Ak.G p).2 := ⟨_, rfl⟩
  rw [← hfd, ← hm, ← hcost] at hr
  rw [← hfd] at c14
  rw [← hm] at c19
  rw [← ht, ← hcost] at hcon ⊢
  replace hfd := Lib.hid hfd
  replace hm := Lib.hid hm
  replace ht := Lib.hid ht
  replace hcost := Lib.hid hcost
  go_cut [53] (fun v53 wx => v53 = .bool r ∧ Hid (Below w5.heap.size w5 wx))
  case first =>
    cases fd with
    | false =>
      simp only [Bool.not_false, Bool.true_or] at hr
      subst hr
      refine Buf.region_calm w5 (by kernel_rfl) (by kernel_rfl) (Below.refl _ _) ?_
      repeat (first
        | (go_big_quiet_want; refine quiet_row 26 (.tmp 3) rfl p3 rfl 26 #[.int .i64 p.1, .int .i64 p.2.1, .int .i64 p.2.2] (0, 0) _ (fun _ hC => RB.out _ hC) rfl rfl rfl ?_; go_big_quiet_on; try simp only [Act.put, List.setIfInBounds_toArray, List.set_cons_zero, List.set_cons_succ])
        | (go_big_quiet_want; refine quiet_mid 26 (.tmp 48) rfl S 15 rfl [.int .i64 st.x, .int .i64 st.y, .int .i64 st.z] _ (fun _ hC => RQ.out _ hC) rfl rfl rfl ?_; go_big_quiet_on; try simp only [Act.put, List.setIfInBounds_toArray, List.set_cons_zero, List.set_cons_succ])
        | go_big_quiet_step ((intro hC; first
           | (go_at_call 83; (with_reducible exact Buf.calm hC (KC.out _ hC)))
           | (simp only [c14.out _ hC, Result.andThen_ok]; exact ⟨trivial, rfl⟩)
           | (simp only [c19.out _ hC, Result.andThen_ok]; exact ⟨trivial, rfl⟩)
           | rfl)))
      refine wpQuiet_nil ?_
      intro w6 b6
      go_wp2_with fail
      go_meet
      exact ⟨rfl, Lib.hid b6⟩
    | true =>
      simp only [Bool.not_true, Bool.false_or] at hr
      by_cases h1 : cost < m
      · have d1 : decide (cost < m) = true := decide_eq_true h1
        rw [d1, Bool.true_or] at hr
        subst hr
        refine Buf.region_calm w5 (by kernel_rfl) (by kernel_rfl) (Below.refl _ _) ?_
        repeat (first
          | (go_big_quiet_want; refine quiet_row 26 (.tmp 3) rfl p3 rfl 26 #[.int .i64 p.1, .int .i64 p.2.1, .int .i64 p.2.2] (0, 0) _ (fun _ hC => RB.out _ hC) rfl rfl rfl ?_; go_big_quiet_on; try simp only [Act.put, List.setIfInBounds_toArray, List.set_cons_zero, List.set_cons_succ])
          | (go_big_quiet_want; refine quiet_mid 26 (.tmp 48) rfl S 15 rfl [.int .i64 st.x, .int .i64 st.y, .int .i64 st.z] _ (fun _ hC => RQ.out _ hC) rfl rfl rfl ?_; go_big_quiet_on; try simp only [Act.put, List.setIfInBounds_toArray, List.set_cons_zero, List.set_cons_succ])
          | go_big_quiet_step ((intro hC; first
             | (go_at_call 83; (with_reducible exact Buf.calm hC (KC.out _ hC)))
             | (simp only [c14.out _ hC, Result.andThen_ok]; exact ⟨trivial, rfl⟩)
             | (simp only [c19.out _ hC, Result.andThen_ok]; exact ⟨trivial, rfl⟩)
             | rfl)))
        refine wpQuiet_nil ?_
        intro w6 b6
        go_wp2_with fail
        go_meet
        exact ⟨rfl, Lib.hid b6⟩
      · have d1 : decide (cost < m) = false := decide_eq_false h1
        rw [d1, Bool.false_or] at hr
        by_cases h2 : cost = m
        · have d2 : (cost == m) = true := by simp [h2]
          rw [decide_eq_true h2, Bool.true_and] at hr
          replace hr := Lib.hid hr
          replace h2 := Lib.hid h2
          refine Buf.region_calm w5 (by kernel_rfl) (by kernel_rfl) (Below.refl _ _) ?_
          repeat (first
            | (go_big_quiet_want; refine quiet_row 26 (.tmp 3) rfl p3 rfl 26 #[.int .i64 p.1, .int .i64 p.2.1, .int .i64 p.2.2] (0, 0) _ (fun _ hC => RB.out _ hC) rfl rfl rfl ?_; go_big_quiet_on; try simp only [Act.put, List.setIfInBounds_toArray, List.set_cons_zero, List.set_cons_succ])
            | (go_big_quiet_want; refine quiet_mid 26 (.tmp 48) rfl S 15 rfl [.int .i64 st.x, .int .i64 st.y, .int .i64 st.z] _ (fun _ hC => RQ.out _ hC) rfl rfl rfl ?_; go_big_quiet_on; try simp only [Act.put, List.setIfInBounds_toArray, List.set_cons_zero, List.set_cons_succ])
            | go_big_quiet_step ((intro hC; first
               | (go_at_call 83; (with_reducible exact Buf.calm hC (KC.out _ hC)))
               | (simp only [c14.out _ hC, Result.andThen_ok]; exact ⟨trivial, rfl⟩)
               | (simp only [c19.out _ hC, Result.andThen_ok]; exact ⟨trivial, rfl⟩)
               | rfl)))
          refine wpQuiet_nil ?_
          intro w6 b6
          go_wp2_with fail
          go_meet
          exact ⟨by rw [hr.out], Lib.hid b6⟩
        · have d2 : (cost == m) = false := by simp [h2]
          rw [decide_eq_false h2, Bool.false_and] at hr
          subst hr
          replace h2 := Lib.hid h2
          refine Buf.region_calm w5 (by kernel_rfl) (by kernel_rfl) (Below.refl _ _) ?_
          repeat (first
            | (go_big_quiet_want; refine quiet_row 26 (.tmp 3) rfl p3 rfl 26 #[.int .i64 p.1, .int .i64 p.2.1, .int .i64 p.2.2] (0, 0) _ (fun _ hC => RB.out _ hC) rfl rfl rfl ?_; go_big_quiet_on; try simp only [Act.put, List.setIfInBounds_toArray, List.set_cons_zero, List.set_cons_succ])
            | (go_big_quiet_want; refine quiet_mid 26 (.tmp 48) rfl S 15 rfl [.int .i64 st.x, .int .i64 st.y, .int .i64 st.z] _ (fun _ hC => RQ.out _ hC) rfl rfl rfl ?_; go_big_quiet_on; try simp only [Act.put, List.setIfInBounds_toArray, List.set_cons_zero, List.set_cons_succ])
            | go_big_quiet_step ((intro hC; first
               | (go_at_call 83; (with_reducible exact Buf.calm hC (KC.out _ hC)))
               | (simp only [c14.out _ hC, Result.andThen_ok]; exact ⟨trivial, rfl⟩)
               | (simp only [c19.out _ hC, Result.andThen_ok]; exact ⟨trivial, rfl⟩)
               | rfl)))
          refine wpQuiet_nil ?_
          intro w6 b6
          go_wp2_with fail
          go_meet
          exact ⟨rfl, Lib.hid b6⟩
  case rest =>
    obtain ⟨rfl, b6⟩ := hcut
    rename_i hKK
    refine hKK _ _ ?_
    clear hKK KC RQ RB c14 c19
    have M6 := Lib.hid (M5.out.below b6.out)
    have FR6 := Lib.hid (FR5.out.trans (Fr.below b6.out))
    have K6 := Lib.hid (Mis.hb b6.out K5.out)
    obtain ⟨w6, rfl⟩ : ∃ w6 : World, w6 = wc := ⟨_, rfl⟩
    clear M5 K5 b6 hr
    cases r with
    | false =>
      have hc2 := hcon.out
      rw [if_neg (by simp)] at hc2
      replace hc2 := Lib.hid hc2
      clear hcon
      go_wp2_with fail
      go_ret
      exact ⟨rfl, by rw [hc2.out]; exact M6.out, FR6.out⟩
    | true =>
      have hc2 := hcon.out
      rw [if_pos rfl] at hc2
      replace hc2 := Lib.hid hc2
      clear hcon
      have TH := Lib.hid (Mid.there M6.out.blk 15 12 (show 15 + 12 ≤ 27 from Nat.le_refl _))
      go_upto_region 6 with (first | ((with_reducible refine Mid.ldr 26 (.tmp 3) p3 26 #[.int .i64 p.1, .int .i64 p.2.1, .int .i64 p.2.2] K6.out ?_ ?_ ?_ ?_ ?_ ?_); (· rfl); (· rfl); (· first | rfl | simp [Act.eval]); (· exact ⟨_, rfl, rfl⟩); (· kernel_rfl)) | ((with_reducible refine Mid.stm 36 (.tmp 60) (.tmp 58) S 15 12 [.int .i64 p.1, .int .i64 p.2.1, .int .i64 p.2.2, .int .i64 t, .int .i64 cost, .int .i64 0, .int .i64 0, .int .i64 0, .int .i64 0, .int .i64 0, .int .i64 0, .int .i64 0] TH.out ?_ ?_ ?_ ?_ ?_ ?_ ?_ ?_); (· rfl); (· rfl); (· first | rfl | simp [Act.eval]); (· first | rfl | simp [Act.eval]); (· rfl); (· kernel_rfl); (· simp [Value.oneCell'])))
      try simp only [Act.put]
      have M7 := Lib.hid (M6.out.others (st' := { st with x := p.1, y := p.2.1, z := p.2.2, t := t, m := cost }) 15 [.int .i64 p.1, .int .i64 p.2.1, .int .i64 p.2.2, .int .i64 t, .int .i64 cost, .int .i64 0, .int .i64 0, .int .i64 0, .int .i64 0, .int .i64 0, .int .i64 0, .int .i64 0] (by kernel_rfl) rfl)
      obtain ⟨w7, hw7⟩ : ∃ z, z = w6.setCells S 15 [.int .i64 p.1, .int .i64 p.2.1, .int .i64 p.2.2, .int .i64 t, .int .i64 cost, .int .i64 0, .int .i64 0, .int .i64 0, .int .i64 0, .int .i64 0, .int .i64 0, .int .i64 0] := ⟨_, rfl⟩
      have FR7 := Lib.hid (FR6.out.trans (Fr.cells M6.out.blk 15 [.int .i64 p.1, .int .i64 p.2.1, .int .i64 p.2.2, .int .i64 t, .int .i64 cost, .int .i64 0, .int .i64 0, .int .i64 0, .int .i64 0, .int .i64 0, .int .i64 0, .int .i64 0]))
      rw [← hw7] at M7 FR7 ⊢
      have c14 := M7.out.cell 14 (.bool st.fd) rfl
      have f14 := frozen_of_row w7 S 14 _ _ M7.out.blk
      clear hw7 M6 K6 TH
      go_wp2_with fail
      go_ret
      exact ⟨rfl, by rw [hc2.out]; exact M7.out.other (st' := { st with fd := true, x := p.1, y := p.2.1, z := p.2.2, t := t, m := cost }) 14 (.bool true) (by kernel_rfl) rfl, FR7.out.trans (Fr.cell M7.out.blk 14 (.bool true))⟩
end Loc
end Go.Proofs.YtldgihlhioeipaaGreat

/- search.take. -/
set_option linter.unusedVariables false
set_option linter.unusedSimpArgs false
namespace Go.Proofs.YtldgihlhioeipaaGreat
open Go.RowKit Qt
namespace Loc
theorem Inv.room {Ak : Ask} {R : Bx} {st : St} (i : Inv Ak R st) (few : 2 * np R - 1 ≤ 60000) (h0 : st.op.length ≠ 0) (ht : st.tk ≤ 2999) : 0 ≤ st.tk ∧ st.tk ≤ 2999 ∧ st.op.length ≤ 60000 ∧ 0 ≤ st.nx ∧ st.nx ≤ 6000 := by
  have h1 := wgt_ge i.box
  have h2 := i.pot
  have h3 := i.tk0
  have h4 := i.nx0
  have h5 := i.nx9
  refine ⟨h3, ht, by omega, h4, by omega⟩
theorem OwnQ.box {w : World} {B0 b n c : Nat} {L : List OB} (h : OwnQ w B0 (.slice (some ⟨b, 0, none⟩) n c) L) (h0 : 0 < L.length) {B : Bx} (hB : B = (g L 0).bx) : w.rangeAt b 0 (box6 B) := fun j u hu => by
  have hj : j < 6 := by have := (List.getElem?_eq_some_iff.1 hu).1; simpa [box6] using this
  have := h.cell (k := 0) h0 j u (by
    rw [← hu, hB]
    rcases j with _ | _ | _ | _ | _ | _ | j
    · rfl
    · rfl
    · rfl
    · rfl
    · rfl
    · rfl
    · omega)
  simpa using this
set_option maxHeartbeats 8000000 in
set_option maxRecDepth 100000 in
theorem take_any {A w : World} {Ak : Ask} {R : Bx} {q : Pq} (P : Pr A Ak R q) {S : Nat} {v : Value} {st : St} (h : SM A S R q w v st) (i : Inv Ak R st) (h0 : st.op.length ≠ 0) (ht : st.tk ≤ 2999) :
    Calls Tryz.prog 38 #[.pointer (some ⟨S, 0, none⟩)] w fun e w' => e = .returned (.int .i64 0) ∧ ∃ v', SM A S R q w' v' (take Ak st) := by
  obtain ⟨r1, r2, r3, r4, r5⟩ := i.room P.few h0 ht
  obtain ⟨ad, n, c, rfl, _⟩ := Mis.own_letter h.own
  obtain ⟨b, rfl, hl, _, _⟩ := h.own.addr (by omega)
  obtain ⟨B, hB⟩ : ∃ B, B = (g st.op 0).bx := ⟨_, rfl⟩
  have hSb : Sb R B := by rw [hB]; exact (i.box _ (g_mem (by omega))).1
  have hcen := cen_in hSb
  have hct := inB_sub hSb hcen
  have bv := P.bv B hSb
  have hpl : (pop st.op).length ≤ 60000 := by rw [pop_len]; omega
  obtain ⟨tk, htk⟩ : ∃ z, z = st.tk := ⟨_, rfl⟩
  have c13 := h.cell 13 (.int .i64 st.tk) rfl
  have f13 := frozen_of_row w S 13 _ _ h.blk
  have HTK := Lib.hid htk
  rw [← htk] at c13 r1 r2
  have d1 : (tk == 3000) = false := by simp; omega
  have n1 : 0 < n := by omega
  have n2 : (0 : Int) < (n : Int) := by omega
  have hl1 : 0 < st.op.length := by omega
  have htake : take Ak st = if one B = true then consider Ak (first st) (cen B) else add Ak (add Ak (consider Ak (first st) (cen B)) (Ak.S B).1) (Ak.S B).2 := by unfold take; rw [hB]
  replace htake := Lib.hid htake
  have H := Lib.hid h
  have HP := Lib.hid P
  replace hB := Lib.hid hB
  replace hl := Lib.hid hl
  replace hSb := Lib.hid hSb
  replace hcen := Lib.hid hcen
  replace hct := Lib.hid hct
  replace bv := Lib.hid bv
  clear h P i h0 htk ht
  go_enter Tryz.func38, Tryz.ntmps38
  go_upto_region 4 with fail
  have M1 : Hid (SM A S R q (w.setCell ⟨S, 13, none⟩ (.int .i64 (tk + 1))) (.slice (some ⟨b, 0, none⟩) n c) { st with tk := tk + 1 }) := Lib.hid (H.out.other (st' := { st with tk := tk + 1 }) 13 (.int .i64 (tk + 1)) rfl rfl)
  obtain ⟨w1, hw1⟩ : ∃ z, z = w.setCell ⟨S, 13, none⟩ (.int .i64 (tk + 1)) := ⟨_, rfl⟩
  rw [← hw1] at M1 ⊢
  clear hw1 c13 f13 d1 H
  have c11 := M1.out.cell 11 (.slice (some ⟨b, 0, none⟩) n c) rfl
  have RB := Lib.hid (OwnQ.box M1.out.own hl1 (B := B) hB.out)
  go_upto_region 5 with (first | ((with_reducible refine Mid.ldm 28 (.tmp 26) b 0 (box6 B) RB.out ?_ ?_ ?_ ?_ ?_ ?_); (· rfl); (· rfl); (· first | rfl | simp [Act.eval]); (· exact ⟨_, rfl, rfl⟩); (· kernel_rfl)) | ((with_reducible refine Mid.str 28 (.tmp 3) (.tmp 27) w1.heap.size 28 #[.int .i64 0, .int .i64 0, .int .i64 0, .int .i64 0, .int .i64 0, .int .i64 0] #[.int .i64 B.a, .int .i64 B.b, .int .i64 B.c, .int .i64 B.d, .int .i64 B.e, .int .i64 B.f] (heap_alloc_new w1 _) ?_ ?_ ?_ ?_ ?_ ?_ ?_ ?_); (· rfl); (· rfl); (· first | rfl | simp [Act.eval]); (· first | rfl | simp [Act.eval]); (· kernel_rfl); (· rfl); (· simp [Value.oneCell'])))
  try simp only [Act.put]
  have N2 : Below w1.heap.size w1 ((w1.alloc (.cells #[.int .i64 0, .int .i64 0, .int .i64 0, .int .i64 0, .int .i64 0, .int .i64 0] 28)).setRow w1.heap.size #[.int .i64 B.a, .int .i64 B.b, .int .i64 B.c, .int .i64 B.d, .int .i64 B.e, .int .i64 B.f]) := Mid.below_row (Mis.new_block _) _ _ (Nat.le_refl _)
  have K3 := Lib.hid (show ((w1.alloc (.cells #[.int .i64 0, .int .i64 0, .int .i64 0, .int .i64 0, .int .i64 0, .int .i64 0] 28)).setRow w1.heap.size #[.int .i64 B.a, .int .i64 B.b, .int .i64 B.c, .int .i64 B.d, .int .i64 B.e, .int .i64 B.f]).heap[w1.heap.size]? = some (.cells #[.int .i64 B.a, .int .i64 B.b, .int .i64 B.c, .int .i64 B.d, .int .i64 B.e, .int .i64 B.f] 28 (0, 0)) from setRow_heap _ _ _ _ _ _ (heap_alloc_new w1 _))
  obtain ⟨w2, hw2⟩ : ∃ z, z = (w1.alloc (.cells #[.int .i64 0, .int .i64 0, .int .i64 0, .int .i64 0, .int .i64 0, .int .i64 0] 28)).setRow w1.heap.size #[.int .i64 B.a, .int .i64 B.b, .int .i64 B.c, .int .i64 B.d, .int .i64 B.e, .int .i64 B.f] := ⟨_, rfl⟩
  rw [← hw2] at N2 K3 ⊢
  have M2 := Lib.hid (M1.out.below N2)
  obtain ⟨p3, hp3⟩ : ∃ z, z = w1.heap.size := ⟨_, rfl⟩
  rw [← hp3] at K3 ⊢
  clear hw2 hp3 N2 c11 RB M1
  go_wp2_with fail
  refine (hpop_any (cs_at R q _) M2.out (by show st.op.length ≤ 900000; omega) hl1).mono ?_
  rintro e w3 ⟨⟨r, rfl⟩, v3, h3, fr3⟩
  have M3 : Hid (SM A S R q w3 v3 (first st)) := Lib.hid (by unfold first; rw [← HTK.out]; exact SM.queue h3)
  have K3b := Lib.hid (fr3.2 p3 _ _ K3.out (by decide) (by decide))
  clear h3 fr3 K3 M2
  have CE := Lib.hid fun w' => Geo.center_yes B.a B.b B.c B.d B.e B.f bv.out w'
  go_upto_region 9 with (first | ((with_reducible refine Mid.ldr 28 (.tmp 3) p3 28 #[.int .i64 B.a, .int .i64 B.b, .int .i64 B.c, .int .i64 B.d, .int .i64 B.e, .int .i64 B.f] K3b.out ?_ ?_ ?_ ?_ ?_ ?_); (· rfl); (· rfl); (· first | rfl | simp [Act.eval]); (· exact ⟨_, rfl, rfl⟩); (· kernel_rfl)) | (go_at_call 61; refine (CE.out _).mono ?_; rintro e w4 ⟨rfl, b4⟩; have M4 := Lib.hid (M3.out.below b4); have K4 := Lib.hid (Mis.hb b4 K3b.out); clear b4) | (go_at_call 60; refine (consider_any HP.out M4.out (cen B) hct.out).mono ?_; rintro e w5 ⟨rfl, h5, fr5⟩; have M5 := Lib.hid h5; have K5 := Lib.hid (fr5.2 p3 _ _ K4.out (by decide) (by decide)); clear h5 fr5))
  obtain ⟨o1, o2, o3, o4⟩ := consider_op Ak (first st) (cen B)
  have l5 : (consider Ak (first st) (cen B)).op.length ≤ 60000 := by rw [o1]; exact hpl
  have n5 : 0 ≤ (consider Ak (first st) (cen B)).nx := by rw [o2]; exact r4
  have n59 : (consider Ak (first st) (cen B)).nx ≤ 6000 := by rw [o2]; exact r5
  clear o1 o2 o3 o4 M3 M4 K3b K4 CE
  obtain ⟨st5, hst5⟩ : ∃ z, z = consider Ak (first st) (cen B) := ⟨_, rfl⟩
  rw [← hst5] at l5 n5 n59 M5 htake
  clear hst5
  cases hone : one B with
  | true =>
    have ht := htake.out
    rw [if_pos hone] at ht
    have hSN : ∀ w', Calls Tryz.prog 62 #[.agg #[.int .i64 B.a, .int .i64 B.b, .int .i64 B.c, .int .i64 B.d, .int .i64 B.e, .int .i64 B.f]] w' fun r w'' => r = .returned (.tuple #[.agg #[.int .i64 0, .int .i64 0, .int .i64 0, .int .i64 0, .int .i64 0, .int .i64 0], .agg #[.int .i64 0, .int .i64 0, .int .i64 0, .int .i64 0, .int .i64 0, .int .i64 0], .bool false]) ∧ Below w'.heap.size w' w'' := by
      intro w'
      obtain ⟨Ba, Bb, Bc, Bd, Be, Bf⟩ := B
      unfold one at hone
      simp at hone
      obtain ⟨rfl, rfl, rfl⟩ := hone
      exact Geo.split_no _ _ _ bv.out w'
    replace ht := Lib.hid ht
    replace hSN := Lib.hid hSN
    clear htake
    go_wp2_with (first | ((with_reducible refine Mid.ldr 28 (.tmp 3) p3 28 #[.int .i64 B.a, .int .i64 B.b, .int .i64 B.c, .int .i64 B.d, .int .i64 B.e, .int .i64 B.f] K5.out ?_ ?_ ?_ ?_ ?_ ?_); (· rfl); (· rfl); (· first | rfl | simp [Act.eval]); (· exact ⟨_, rfl, rfl⟩); (· kernel_rfl)) | (go_at_call 62; refine (hSN.out _).mono ?_; rintro e w6 ⟨rfl, b6⟩))
    go_ret
    exact ⟨rfl, _, by rw [ht.out]; exact (M5.out.below b6).below (Buf.then_ (Mis.new_block _) (Mis.new_block _))⟩
  | false =>
    have ht := htake.out
    rw [if_neg (by simp [hone])] at ht
    replace ht := Lib.hid ht
    obtain ⟨B1, hB1⟩ : ∃ z, z = (Ak.S B).1 := ⟨_, rfl⟩
    obtain ⟨B2, hB2⟩ : ∃ z, z = (Ak.S B).2 := ⟨_, rfl⟩
    have SPL := HP.out.sp B hSb.out hone
    obtain ⟨sb1, sb2, _, _⟩ := HP.out.good.sp B hSb.out hone
    have ht2 := ht.out
    rw [← hB1, ← hB2] at SPL ht2
    rw [← hB1] at sb1
    rw [← hB2] at sb2
    replace ht := Lib.hid ht2
    replace sb1 := Lib.hid (hSb.out.trans sb1)
    replace sb2 := Lib.hid (hSb.out.trans sb2)
    replace SPL := Lib.hid SPL
    clear htake ht2 hB1 hB2
    go_wp2_with ((with_reducible refine Mid.ldr 28 (.tmp 3) p3 28 #[.int .i64 B.a, .int .i64 B.b, .int .i64 B.c, .int .i64 B.d, .int .i64 B.e, .int .i64 B.f] K5.out ?_ ?_ ?_ ?_ ?_ ?_); (· rfl); (· rfl); (· first | rfl | simp [Act.eval]); (· exact ⟨_, rfl, rfl⟩); (· kernel_rfl))
    refine (SPL.out _).mono ?_
    rintro e w6 ⟨rfl, b6⟩
    have M6 := Lib.hid (M5.out.below b6)
    have Y5 := Lib.hid (show ((w6.alloc (.cells #[.int .i64 0, .int .i64 0, .int .i64 0, .int .i64 0, .int .i64 0, .int .i64 0] 28)).alloc (.cells #[.int .i64 0, .int .i64 0, .int .i64 0, .int .i64 0, .int .i64 0, .int .i64 0] 28)).heap[w6.heap.size]? = some (.cells #[.int .i64 0, .int .i64 0, .int .i64 0, .int .i64 0, .int .i64 0, .int .i64 0] 28 (0, 0)) from ((Mis.new_block (w := w6.alloc (.cells #[.int .i64 0, .int .i64 0, .int .i64 0, .int .i64 0, .int .i64 0, .int .i64 0] 28)) _).block _ (by simp)).trans (heap_alloc_new w6 _))
    have Y6 := Lib.hid (show (((w6.alloc (.cells #[.int .i64 0, .int .i64 0, .int .i64 0, .int .i64 0, .int .i64 0, .int .i64 0] 28)).alloc (.cells #[.int .i64 0, .int .i64 0, .int .i64 0, .int .i64 0, .int .i64 0, .int .i64 0] 28)).setRow w6.heap.size (box6 B1).toArray).heap[w6.heap.size + 1]? = some (.cells #[.int .i64 0, .int .i64 0, .int .i64 0, .int .i64 0, .int .i64 0, .int .i64 0] 28 (0, 0)) from (setRow_other _ _ _ _ (by omega)).trans (by have := heap_alloc_new (w6.alloc (.cells #[.int .i64 0, .int .i64 0, .int .i64 0, .int .i64 0, .int .i64 0, .int .i64 0] 28)) (.cells #[.int .i64 0, .int .i64 0, .int .i64 0, .int .i64 0, .int .i64 0, .int .i64 0] 28); simpa using this))
    clear b6
    go_upto_region 10 with (first | ((with_reducible refine Mid.str 28 (.tmp 5) (.tmp 43) w6.heap.size 28 #[.int .i64 0, .int .i64 0, .int .i64 0, .int .i64 0, .int .i64 0, .int .i64 0] (box6 B1).toArray Y5.out ?_ ?_ ?_ ?_ ?_ ?_ ?_ ?_); (· rfl); (· rfl); (· first | rfl | simp [Act.eval]); (· first | rfl | simp [Act.eval]); (· kernel_rfl); (· rfl); (· simp [box6, Value.oneCell'])) | ((with_reducible refine Mid.str 28 (.tmp 6) (.tmp 44) (w6.heap.size + 1) 28 #[.int .i64 0, .int .i64 0, .int .i64 0, .int .i64 0, .int .i64 0, .int .i64 0] (box6 B2).toArray Y6.out ?_ ?_ ?_ ?_ ?_ ?_ ?_ ?_); (· rfl); (· rfl); (· first | rfl | simp [Act.eval]); (· first | rfl | simp [Act.eval]); (· kernel_rfl); (· rfl); (· simp [box6, Value.oneCell'])))
    try simp only [Act.put]
    have N7 : Below w6.heap.size w6 ((((w6.alloc (.cells #[.int .i64 0, .int .i64 0, .int .i64 0, .int .i64 0, .int .i64 0, .int .i64 0] 28)).alloc (.cells #[.int .i64 0, .int .i64 0, .int .i64 0, .int .i64 0, .int .i64 0, .int .i64 0] 28)).setRow w6.heap.size (box6 B1).toArray).setRow (w6.heap.size + 1) (box6 B2).toArray) := Mid.below_row (Mid.below_row (Buf.then_ (Mis.new_block _) (Mis.new_block _)) _ _ (Nat.le_refl _)) _ _ (by omega)
    have K7 := Lib.hid (show ((((w6.alloc (.cells #[.int .i64 0, .int .i64 0, .int .i64 0, .int .i64 0, .int .i64 0, .int .i64 0] 28)).alloc (.cells #[.int .i64 0, .int .i64 0, .int .i64 0, .int .i64 0, .int .i64 0, .int .i64 0] 28)).setRow w6.heap.size (box6 B1).toArray).setRow (w6.heap.size + 1) (box6 B2).toArray).heap[w6.heap.size]? = some (.cells (box6 B1).toArray 28 (0, 0)) from (setRow_other _ _ _ _ (by omega)).trans (setRow_heap _ _ _ _ _ _ Y5.out))
    have K8 := Lib.hid (show ((((w6.alloc (.cells #[.int .i64 0, .int .i64 0, .int .i64 0, .int .i64 0, .int .i64 0, .int .i64 0] 28)).alloc (.cells #[.int .i64 0, .int .i64 0, .int .i64 0, .int .i64 0, .int .i64 0, .int .i64 0] 28)).setRow w6.heap.size (box6 B1).toArray).setRow (w6.heap.size + 1) (box6 B2).toArray).heap[w6.heap.size + 1]? = some (.cells (box6 B2).toArray 28 (0, 0)) from setRow_heap _ _ _ _ _ _ Y6.out)
    obtain ⟨w7, hw7⟩ : ∃ z, z = (((w6.alloc (.cells #[.int .i64 0, .int .i64 0, .int .i64 0, .int .i64 0, .int .i64 0, .int .i64 0] 28)).alloc (.cells #[.int .i64 0, .int .i64 0, .int .i64 0, .int .i64 0, .int .i64 0, .int .i64 0] 28)).setRow w6.heap.size (box6 B1).toArray).setRow (w6.heap.size + 1) (box6 B2).toArray := ⟨_, rfl⟩
    rw [← hw7] at N7 K7 K8 ⊢
    have M7 := Lib.hid (M6.out.below N7)
    obtain ⟨p5, hp5⟩ : ∃ z, z = w6.heap.size := ⟨_, rfl⟩
    obtain ⟨p6, hp6⟩ : ∃ z, z = w6.heap.size + 1 := ⟨_, rfl⟩
    rw [← hp6] at K8 ⊢
    rw [← hp5] at K7 ⊢
    clear hw7 hp5 hp6 N7 Y5 Y6 M6 M5 K5 SPL
    have ND := Lib.hid (show (add Ak st5 B1).op.length ≤ 900000 ∧ 0 ≤ (add Ak st5 B1).nx ∧ (add Ak st5 B1).nx ≤ 1000000 from ⟨by show (push _ _).length ≤ _; rw [push_len]; omega, by show 0 ≤ st5.nx + 1; omega, by show st5.nx + 1 ≤ _; omega⟩)
    go_upto_region 13 with (first | ((with_reducible refine Mid.ldr 28 (.tmp 5) p5 28 (box6 B1).toArray K7.out ?_ ?_ ?_ ?_ ?_ ?_); (· rfl); (· rfl); (· first | rfl | simp [Act.eval]); (· exact ⟨_, rfl, rfl⟩); (· kernel_rfl)) | (go_at_call 36; refine (add_any HP.out M7.out B1 sb1.out (by omega) n5 (by omega)).mono ?_; rintro e w8 ⟨rfl, v8, h8, fr8⟩; have M8 := Lib.hid h8; have K9 := Lib.hid (fr8.2 p6 _ _ K8.out (by decide) (by decide)); clear h8 fr8))
    go_wp2_with (first | ((with_reducible refine Mid.ldr 28 (.tmp 6) p6 28 (box6 B2).toArray K9.out ?_ ?_ ?_ ?_ ?_ ?_); (· rfl); (· rfl); (· first | rfl | simp [Act.eval]); (· exact ⟨_, rfl, rfl⟩); (· kernel_rfl)) | (go_at_call 36; refine (add_any HP.out M8.out B2 sb2.out ND.out.1 ND.out.2.1 ND.out.2.2).mono ?_; rintro e w9 ⟨rfl, v9, h9, fr9⟩; have M9 := Lib.hid h9; clear h9 fr9))
    go_ret
    exact ⟨rfl, _, by rw [ht.out]; exact M9.out⟩
set_option maxHeartbeats 8000000 in
set_option maxRecDepth 100000 in
theorem take_tries {A w : World} {R : Bx} {q : Pq} {S : Nat} {v : Value} {st : St} (h : SM A S R q w v st) (ht : st.tk = 3000) :
    Calls Tryz.prog 38 #[.pointer (some ⟨S, 0, none⟩)] w fun e w' => e = .returned (.int .i64 25) ∧ Below w.heap.size w w' := by
  have c13 := h.cell 13 (.int .i64 st.tk) rfl
  rw [ht] at c13
  clear h ht
  go_enter Tryz.func38, Tryz.ntmps38
  go_wp2_with fail
  go_ret
  first
    | exact ⟨rfl, Below.refl _ _⟩
    | exact ⟨rfl, Mis.new_block _⟩
    | exact ⟨rfl, Buf.then_ (Mis.new_block _) (Mis.new_block _)⟩
    | exact ⟨rfl, Buf.then_ (Mis.new_block _) (Buf.then_ (Mis.new_block _) (Mis.new_block _))⟩
end Loc
end Go.Proofs.YtldgihlhioeipaaGreat

/- locate.run. -/
set_option linter.unusedVariables false
set_option linter.unusedSimpArgs false
namespace Go.Proofs.YtldgihlhioeipaaGreat
open Go.RowKit Qt
namespace Loc
/-- The state in which a search ends. -/
def fin (Ak : Ask) (R : Bx) (tol : Int) : St := run Ak tol 3000 (add Ak start R)
theorem m_bd {A : World} {Ak : Ask} {R : Bx} {q : Pq} (P : Pr A Ak R q) {st : St} (i : Inv Ak R st) (h : st.fd = true ∨ st.m = 0) : 0 ≤ st.m ∧ st.m ≤ 1125899906842624 := by
  rcases h with h | h
  · obtain ⟨h1, h2⟩ := i.bst h
    have := P.g0 _ h1
    rw [h2] at this
    exact this
  · omega
theorem b_bd {A : World} {Ak : Ask} {R : Bx} {q : Pq} (P : Pr A Ak R q) {st : St} (i : Inv Ak R st) : 0 ≤ (g st.op 0).bd ∧ (g st.op 0).bd ≤ 1125899906842624 := by
  by_cases h : st.op.length = 0
  · have : g st.op 0 = ob0 := by unfold g; rw [List.getD_eq_getElem?_getD, List.getElem?_eq_none (by omega)]; rfl
    rw [this]; decide
  · obtain ⟨h1, h2⟩ := i.box _ (g_mem (k := 0) (by omega))
    rw [h2]; exact P.f0 _ h1
theorem sm_start {A : World} {S : Nat} {R : Bx} {q : Pq} {w : World} (hb : Below A.heap.size A w) (hS : A.heap.size ≤ S) (h : w.heap[S]? = some (.cells (CS R q start (.slice none 0 0)) 62 (0, 0))) : SM A S R q w (.slice none 0 0) start :=
  ⟨hb, hS, h, World.ownsRow_nil _ _ _ _⟩
set_option maxHeartbeats 8000000 in
set_option maxRecDepth 100000 in
theorem run_any {w : World} {Ak : Ask} {R : Bx} {q : Pq} (P : Pr w Ak R q) (tol : Int) (t0 : 0 ≤ tol) (t9 : tol ≤ 1000000) (he : ended tol (fin Ak R tol) = true) :
    Calls Tryz.prog 20 #[.agg #[.int .i64 R.a, .int .i64 R.b, .int .i64 R.c, .int .i64 R.d, .int .i64 R.e, .int .i64 R.f, .int .i64 q.s, .slice (some ⟨q.b1, 0, none⟩) q.n q.c1, .slice (some ⟨q.b2, 0, none⟩) q.n2 q.c2, .slice (some ⟨q.gp, 0, none⟩) q.nl q.cc, .int .i64 q.cap], .int .i64 tol] w fun e w' => ∃ S v, e = .returned (.tuple #[.pointer (some ⟨S, 0, none⟩), .int .i64 0]) ∧ SM w S R q w' v (fin Ak R tol) := by
  have HP := Lib.hid P
  have i0 := Lib.hid (start_inv P.good)
  have F0 : Hid (run Ak tol 3000 (add Ak start R) = fin Ak R tol) := Lib.hid rfl
  have g0 : Hid ((add Ak start R).tk + ((3000 : Nat) : Int) = 3000) := Lib.hid rfl
  obtain ⟨FN, hFN⟩ : ∃ z, z = fin Ak R tol := ⟨_, rfl⟩
  rw [← hFN] at F0 he ⊢
  have HE := Lib.hid he
  clear he
  replace hFN := Lib.hid hFN
  clear P
  go_enter Tryz.func20, Tryz.ntmps20
  go_upto_region 1 with fail
  have K2 := Lib.hid (heap_alloc_new w (.cells #[.int .i64 R.a, .int .i64 R.b, .int .i64 R.c, .int .i64 R.d, .int .i64 R.e, .int .i64 R.f, .int .i64 q.s, .slice (some ⟨q.b1, 0, none⟩) q.n q.c1, .slice (some ⟨q.b2, 0, none⟩) q.n2 q.c2, .slice (some ⟨q.gp, 0, none⟩) q.nl q.cc, .int .i64 q.cap] 33))
  have B1 := Lib.hid (Mis.new_block (w := w) (.cells #[.int .i64 R.a, .int .i64 R.b, .int .i64 R.c, .int .i64 R.d, .int .i64 R.e, .int .i64 R.f, .int .i64 q.s, .slice (some ⟨q.b1, 0, none⟩) q.n q.c1, .slice (some ⟨q.b2, 0, none⟩) q.n2 q.c2, .slice (some ⟨q.gp, 0, none⟩) q.nl q.cc, .int .i64 q.cap] 33))
  obtain ⟨w1, hw1⟩ : ∃ z, z = w.alloc (.cells #[.int .i64 R.a, .int .i64 R.b, .int .i64 R.c, .int .i64 R.d, .int .i64 R.e, .int .i64 R.f, .int .i64 q.s, .slice (some ⟨q.b1, 0, none⟩) q.n q.c1, .slice (some ⟨q.b2, 0, none⟩) q.n2 q.c2, .slice (some ⟨q.gp, 0, none⟩) q.nl q.cc, .int .i64 q.cap] 33) := ⟨_, rfl⟩
  rw [← hw1] at K2 B1 ⊢
  obtain ⟨p2, hp2⟩ : ∃ z, z = w.heap.size := ⟨_, rfl⟩
  rw [← hp2] at K2 ⊢
  clear hw1 hp2
  go_upto_region 2 with (first | ((with_reducible refine Mid.ldr 33 (.tmp 2) p2 33 #[.int .i64 R.a, .int .i64 R.b, .int .i64 R.c, .int .i64 R.d, .int .i64 R.e, .int .i64 R.f, .int .i64 q.s, .slice (some ⟨q.b1, 0, none⟩) q.n q.c1, .slice (some ⟨q.b2, 0, none⟩) q.n2 q.c2, .slice (some ⟨q.gp, 0, none⟩) q.nl q.cc, .int .i64 q.cap] K2.out ?_ ?_ ?_ ?_ ?_ ?_); (· rfl); (· rfl); (· first | rfl | simp [Act.eval]); (· exact ⟨_, rfl, rfl⟩); (· kernel_rfl)) | (go_at_call 35; refine (HP.out.vl _ B1.out).mono ?_; rintro e w2 ⟨rfl, b2⟩; have B2 := Lib.hid (Buf.then_ B1.out b2); have K3 := Lib.hid (Mis.hb b2 K2.out); clear b2))
  have dt : ¬ (tol < 0) := by omega
  go_upto_region 7 with ((with_reducible refine Mid.ldr 33 (.tmp 2) p2 33 #[.int .i64 R.a, .int .i64 R.b, .int .i64 R.c, .int .i64 R.d, .int .i64 R.e, .int .i64 R.f, .int .i64 q.s, .slice (some ⟨q.b1, 0, none⟩) q.n q.c1, .slice (some ⟨q.b2, 0, none⟩) q.n2 q.c2, .slice (some ⟨q.gp, 0, none⟩) q.nl q.cc, .int .i64 q.cap] K3.out ?_ ?_ ?_ ?_ ?_ ?_); (· rfl); (· rfl); (· first | rfl | simp [Act.eval]); (· exact ⟨_, rfl, rfl⟩); (· kernel_rfl))
  have KS : (w2.alloc (.cells #[.int .i64 R.a, .int .i64 R.b, .int .i64 R.c, .int .i64 R.d, .int .i64 R.e, .int .i64 R.f, .int .i64 q.s, .slice (some ⟨q.b1, 0, none⟩) q.n q.c1, .slice (some ⟨q.b2, 0, none⟩) q.n2 q.c2, .slice (some ⟨q.gp, 0, none⟩) q.nl q.cc, .int .i64 q.cap, .slice none 0 0, .int .i64 0, .int .i64 0, .bool false, .int .i64 0, .int .i64 0, .int .i64 0, .int .i64 0, .int .i64 0, .int .i64 0, .int .i64 0, .int .i64 0, .int .i64 0, .int .i64 0, .int .i64 0, .int .i64 0] 62)).heap[w2.heap.size]? = some (.cells #[.int .i64 R.a, .int .i64 R.b, .int .i64 R.c, .int .i64 R.d, .int .i64 R.e, .int .i64 R.f, .int .i64 q.s, .slice (some ⟨q.b1, 0, none⟩) q.n q.c1, .slice (some ⟨q.b2, 0, none⟩) q.n2 q.c2, .slice (some ⟨q.gp, 0, none⟩) q.nl q.cc, .int .i64 q.cap, .slice none 0 0, .int .i64 0, .int .i64 0, .bool false, .int .i64 0, .int .i64 0, .int .i64 0, .int .i64 0, .int .i64 0, .int .i64 0, .int .i64 0, .int .i64 0, .int .i64 0, .int .i64 0, .int .i64 0, .int .i64 0] 62 (0, 0)) := heap_alloc_new w2 _
  have M3 : Hid (SM w w2.heap.size R q (w2.alloc (.cells #[.int .i64 R.a, .int .i64 R.b, .int .i64 R.c, .int .i64 R.d, .int .i64 R.e, .int .i64 R.f, .int .i64 q.s, .slice (some ⟨q.b1, 0, none⟩) q.n q.c1, .slice (some ⟨q.b2, 0, none⟩) q.n2 q.c2, .slice (some ⟨q.gp, 0, none⟩) q.nl q.cc, .int .i64 q.cap, .slice none 0 0, .int .i64 0, .int .i64 0, .bool false, .int .i64 0, .int .i64 0, .int .i64 0, .int .i64 0, .int .i64 0, .int .i64 0, .int .i64 0, .int .i64 0, .int .i64 0, .int .i64 0, .int .i64 0, .int .i64 0] 62)) (.slice none 0 0) start) := Lib.hid (sm_start (Buf.then_ B2.out (Mis.new_block _)) B2.out.size KS)
  have K4 := Lib.hid (Mis.hb (Mis.new_block (w := w2) (.cells #[.int .i64 R.a, .int .i64 R.b, .int .i64 R.c, .int .i64 R.d, .int .i64 R.e, .int .i64 R.f, .int .i64 q.s, .slice (some ⟨q.b1, 0, none⟩) q.n q.c1, .slice (some ⟨q.b2, 0, none⟩) q.n2 q.c2, .slice (some ⟨q.gp, 0, none⟩) q.nl q.cc, .int .i64 q.cap, .slice none 0 0, .int .i64 0, .int .i64 0, .bool false, .int .i64 0, .int .i64 0, .int .i64 0, .int .i64 0, .int .i64 0, .int .i64 0, .int .i64 0, .int .i64 0, .int .i64 0, .int .i64 0, .int .i64 0, .int .i64 0] 62)) K3.out)
  obtain ⟨w3, hw3⟩ : ∃ z, z = w2.alloc (.cells #[.int .i64 R.a, .int .i64 R.b, .int .i64 R.c, .int .i64 R.d, .int .i64 R.e, .int .i64 R.f, .int .i64 q.s, .slice (some ⟨q.b1, 0, none⟩) q.n q.c1, .slice (some ⟨q.b2, 0, none⟩) q.n2 q.c2, .slice (some ⟨q.gp, 0, none⟩) q.nl q.cc, .int .i64 q.cap, .slice none 0 0, .int .i64 0, .int .i64 0, .bool false, .int .i64 0, .int .i64 0, .int .i64 0, .int .i64 0, .int .i64 0, .int .i64 0, .int .i64 0, .int .i64 0, .int .i64 0, .int .i64 0, .int .i64 0, .int .i64 0] 62) := ⟨_, rfl⟩
  rw [← hw3] at M3 K4 ⊢
  obtain ⟨S, hS⟩ : ∃ z, z = w2.heap.size := ⟨_, rfl⟩
  rw [← hS] at M3 ⊢
  clear hw3 KS hS K3 K2 B1 B2
  have RB := Lib.hid (Mid.range K4.out 0 (box6 R) (by rfl))
  go_upto_region 8 with (first | ((with_reducible refine Mid.ldm 28 (.tmp 21) p2 0 (box6 R) RB.out ?_ ?_ ?_ ?_ ?_ ?_); (· rfl); (· rfl); (· first | rfl | simp [Act.eval]); (· exact ⟨_, rfl, rfl⟩); (· kernel_rfl)) | (go_at_call 36; refine (add_any HP.out M3.out R HP.out.good.rv (by decide) (by decide) (by decide)).mono ?_; rintro e w5 ⟨rfl, v5, h5, fr5⟩; have M5 := Lib.hid h5; clear h5 fr5))
  go_wp2_with fail
  go_loopw [9] (fun u wr => ∃ (u9 : Value) (k : Nat) (st : St) (v : Value), u = u9 ∧ Hid (SM w S R q wr v st) ∧ Hid (Inv Ak R st) ∧ Hid (st.tk + (k : Int) = 3000) ∧ Hid (run Ak tol k st = FN) ∧ Hid (st.fd = true ∨ st.m = 0)) (fun _ wr => 3001 - (intOf ((wr.cell? ⟨S, 13, none⟩).getD undef)).toNat)
  case atStart => exact ⟨_, 3000, add Ak start R, v5, rfl, M5, i0, g0, F0, Lib.hid (.inr rfl)⟩
  case round =>
    clear M5 i0 g0 F0 M3
    obtain ⟨u9, k, st, v, rfl, M, I, G, F, D⟩ := hrel
    obtain ⟨m0, m9⟩ := m_bd HP.out I.out D.out
    obtain ⟨b0, b9⟩ := b_bd HP.out I.out
    have L9 : st.op.length ≤ 60000 := by have := wgt_ge I.out.box; have := I.out.pot; have := I.out.tk0; have := HP.out.few; omega
    have E := Lib.hid (ended_any M.out (by omega) tol t0 t9 m0 m9 b0 b9)
    have c13 := Lib.hid (M.out.cell 13 (.int .i64 st.tk) rfl)
    clear m0 m9 b0 b9
    cases he : ended tol st with
    | true =>
      rw [he] at E
      have hst : st = FN := by
        have := F.out
        cases k with
        | zero => exact this
        | succ k => unfold run at this; rw [if_pos he] at this; exact this
      subst hst
      replace he := Lib.hid he
      go_wp2_with (go_at_call 37; refine E.out.mono ?_; rintro e w6 ⟨rfl, b6⟩)
      go_ret2
      exact ⟨S, v, rfl, M.out.below b6⟩
    | false =>
      rw [he] at E
      have h0 : st.op.length ≠ 0 := fun z => by unfold ended at he; simp [z] at he
      obtain ⟨J, J1, J2⟩ := take_inv HP.out.good I.out h0
      rcases k with _ | k'
      · have e0 : st = FN := F.out
        have := HE.out
        rw [← e0, he] at this
        exact absurd this (by decide)
      have ht9 : st.tk ≤ 2999 := by have := G.out; omega
      have r1 := I.out.tk0
      have F2 := F.out
      unfold run at F2
      rw [if_neg (by simp [he])] at F2
      have G2 : (take Ak st).tk + (k' : Int) = 3000 := by have := G.out; omega
      replace F2 := Lib.hid F2
      replace G2 := Lib.hid G2
      replace J := Lib.hid J
      replace J1 := Lib.hid J1
      replace J2 := Lib.hid J2
      replace he := Lib.hid he
      replace h0 := Lib.hid h0
      clear F G
      go_wp2_with (first | (go_at_call 37; refine E.out.mono ?_; rintro e w6 ⟨rfl, b6⟩; have M6 := Lib.hid (M.out.below b6); clear b6) | (go_at_call 38; refine (take_any HP.out M6.out I.out h0.out ht9).mono ?_; rintro e w7 ⟨rfl, v7, h7⟩; have M7 := Lib.hid h7; clear h7))
      go_roundw
      case rel => exact ⟨_, k', take Ak st, v7, rfl, M7, J, G2, F2, Lib.hid (.inl J2.out)⟩
      case measure =>
        rw [c13.out, M7.out.cell 13 (.int .i64 (take Ak st).tk) rfl, J1.out]
        simp [intOf]; omega
set_option maxHeartbeats 8000000 in
set_option maxRecDepth 100000 in
theorem run_tries {w : World} {Ak : Ask} {R : Bx} {q : Pq} (P : Pr w Ak R q) (tol : Int) (t0 : 0 ≤ tol) (t9 : tol ≤ 1000000) (he : ended tol (fin Ak R tol) = false) :
    Calls Tryz.prog 20 #[.agg #[.int .i64 R.a, .int .i64 R.b, .int .i64 R.c, .int .i64 R.d, .int .i64 R.e, .int .i64 R.f, .int .i64 q.s, .slice (some ⟨q.b1, 0, none⟩) q.n q.c1, .slice (some ⟨q.b2, 0, none⟩) q.n2 q.c2, .slice (some ⟨q.gp, 0, none⟩) q.nl q.cc, .int .i64 q.cap], .int .i64 tol] w fun e w' => e = .returned (.tuple #[.pointer none, .int .i64 25]) ∧ Below w.heap.size w w' := by
  have HP := Lib.hid P
  have i0 := Lib.hid (start_inv P.good)
  have F0 : Hid (run Ak tol 3000 (add Ak start R) = fin Ak R tol) := Lib.hid rfl
  have g0 : Hid ((add Ak start R).tk + ((3000 : Nat) : Int) = 3000) := Lib.hid rfl
  obtain ⟨FN, hFN⟩ : ∃ z, z = fin Ak R tol := ⟨_, rfl⟩
  rw [← hFN] at F0 he
  have HE := Lib.hid he
  clear he
  replace hFN := Lib.hid hFN
  clear P
  go_enter Tryz.func20, Tryz.ntmps20
  go_upto_region 1 with fail
  have K2 := Lib.hid (heap_alloc_new w (.cells #[.int .i64 R.a, .int .i64 R.b, .int .i64 R.c, .int .i64 R.d, .int .i64 R.e, .int .i64 R.f, .int .i64 q.s, .slice (some ⟨q.b1, 0, none⟩) q.n q.c1, .slice (some ⟨q.b2, 0, none⟩) q.n2 q.c2, .slice (some ⟨q.gp, 0, none⟩) q.nl q.cc, .int .i64 q.cap] 33))
  have B1 := Lib.hid (Mis.new_block (w := w) (.cells #[.int .i64 R.a, .int .i64 R.b, .int .i64 R.c, .int .i64 R.d, .int .i64 R.e, .int .i64 R.f, .int .i64 q.s, .slice (some ⟨q.b1, 0, none⟩) q.n q.c1, .slice (some ⟨q.b2, 0, none⟩) q.n2 q.c2, .slice (some ⟨q.gp, 0, none⟩) q.nl q.cc, .int .i64 q.cap] 33))
  obtain ⟨w1, hw1⟩ : ∃ z, z = w.alloc (.cells #[.int .i64 R.a, .int .i64 R.b, .int .i64 R.c, .int .i64 R.d, .int .i64 R.e, .int .i64 R.f, .int .i64 q.s, .slice (some ⟨q.b1, 0, none⟩) q.n q.c1, .slice (some ⟨q.b2, 0, none⟩) q.n2 q.c2, .slice (some ⟨q.gp, 0, none⟩) q.nl q.cc, .int .i64 q.cap] 33) := ⟨_, rfl⟩
  rw [← hw1] at K2 B1 ⊢
  obtain ⟨p2, hp2⟩ : ∃ z, z = w.heap.size := ⟨_, rfl⟩
  rw [← hp2] at K2 ⊢
  clear hw1 hp2
  go_upto_region 2 with (first | ((with_reducible refine Mid.ldr 33 (.tmp 2) p2 33 #[.int .i64 R.a, .int .i64 R.b, .int .i64 R.c, .int .i64 R.d, .int .i64 R.e, .int .i64 R.f, .int .i64 q.s, .slice (some ⟨q.b1, 0, none⟩) q.n q.c1, .slice (some ⟨q.b2, 0, none⟩) q.n2 q.c2, .slice (some ⟨q.gp, 0, none⟩) q.nl q.cc, .int .i64 q.cap] K2.out ?_ ?_ ?_ ?_ ?_ ?_); (· rfl); (· rfl); (· first | rfl | simp [Act.eval]); (· exact ⟨_, rfl, rfl⟩); (· kernel_rfl)) | (go_at_call 35; refine (HP.out.vl _ B1.out).mono ?_; rintro e w2 ⟨rfl, b2⟩; have B2 := Lib.hid (Buf.then_ B1.out b2); have K3 := Lib.hid (Mis.hb b2 K2.out); clear b2))
  have dt : ¬ (tol < 0) := by omega
  go_upto_region 7 with ((with_reducible refine Mid.ldr 33 (.tmp 2) p2 33 #[.int .i64 R.a, .int .i64 R.b, .int .i64 R.c, .int .i64 R.d, .int .i64 R.e, .int .i64 R.f, .int .i64 q.s, .slice (some ⟨q.b1, 0, none⟩) q.n q.c1, .slice (some ⟨q.b2, 0, none⟩) q.n2 q.c2, .slice (some ⟨q.gp, 0, none⟩) q.nl q.cc, .int .i64 q.cap] K3.out ?_ ?_ ?_ ?_ ?_ ?_); (· rfl); (· rfl); (· first | rfl | simp [Act.eval]); (· exact ⟨_, rfl, rfl⟩); (· kernel_rfl))
  have KS : (w2.alloc (.cells #[.int .i64 R.a, .int .i64 R.b, .int .i64 R.c, .int .i64 R.d, .int .i64 R.e, .int .i64 R.f, .int .i64 q.s, .slice (some ⟨q.b1, 0, none⟩) q.n q.c1, .slice (some ⟨q.b2, 0, none⟩) q.n2 q.c2, .slice (some ⟨q.gp, 0, none⟩) q.nl q.cc, .int .i64 q.cap, .slice none 0 0, .int .i64 0, .int .i64 0, .bool false, .int .i64 0, .int .i64 0, .int .i64 0, .int .i64 0, .int .i64 0, .int .i64 0, .int .i64 0, .int .i64 0, .int .i64 0, .int .i64 0, .int .i64 0, .int .i64 0] 62)).heap[w2.heap.size]? = some (.cells #[.int .i64 R.a, .int .i64 R.b, .int .i64 R.c, .int .i64 R.d, .int .i64 R.e, .int .i64 R.f, .int .i64 q.s, .slice (some ⟨q.b1, 0, none⟩) q.n q.c1, .slice (some ⟨q.b2, 0, none⟩) q.n2 q.c2, .slice (some ⟨q.gp, 0, none⟩) q.nl q.cc, .int .i64 q.cap, .slice none 0 0, .int .i64 0, .int .i64 0, .bool false, .int .i64 0, .int .i64 0, .int .i64 0, .int .i64 0, .int .i64 0, .int .i64 0, .int .i64 0, .int .i64 0, .int .i64 0, .int .i64 0, .int .i64 0, .int .i64 0] 62 (0, 0)) := heap_alloc_new w2 _
  have M3 : Hid (SM w w2.heap.size R q (w2.alloc (.cells #[.int .i64 R.a, .int .i64 R.b, .int .i64 R.c, .int .i64 R.d, .int .i64 R.e, .int .i64 R.f, .int .i64 q.s, .slice (some ⟨q.b1, 0, none⟩) q.n q.c1, .slice (some ⟨q.b2, 0, none⟩) q.n2 q.c2, .slice (some ⟨q.gp, 0, none⟩) q.nl q.cc, .int .i64 q.cap, .slice none 0 0, .int .i64 0, .int .i64 0, .bool false, .int .i64 0, .int .i64 0, .int .i64 0, .int .i64 0, .int .i64 0, .int .i64 0, .int .i64 0, .int .i64 0, .int .i64 0, .int .i64 0, .int .i64 0, .int .i64 0] 62)) (.slice none 0 0) start) := Lib.hid (sm_start (Buf.then_ B2.out (Mis.new_block _)) B2.out.size KS)
  have K4 := Lib.hid (Mis.hb (Mis.new_block (w := w2) (.cells #[.int .i64 R.a, .int .i64 R.b, .int .i64 R.c, .int .i64 R.d, .int .i64 R.e, .int .i64 R.f, .int .i64 q.s, .slice (some ⟨q.b1, 0, none⟩) q.n q.c1, .slice (some ⟨q.b2, 0, none⟩) q.n2 q.c2, .slice (some ⟨q.gp, 0, none⟩) q.nl q.cc, .int .i64 q.cap, .slice none 0 0, .int .i64 0, .int .i64 0, .bool false, .int .i64 0, .int .i64 0, .int .i64 0, .int .i64 0, .int .i64 0, .int .i64 0, .int .i64 0, .int .i64 0, .int .i64 0, .int .i64 0, .int .i64 0, .int .i64 0] 62)) K3.out)
  obtain ⟨w3, hw3⟩ : ∃ z, z = w2.alloc (.cells #[.int .i64 R.a, .int .i64 R.b, .int .i64 R.c, .int .i64 R.d, .int .i64 R.e, .int .i64 R.f, .int .i64 q.s, .slice (some ⟨q.b1, 0, none⟩) q.n q.c1, .slice (some ⟨q.b2, 0, none⟩) q.n2 q.c2, .slice (some ⟨q.gp, 0, none⟩) q.nl q.cc, .int .i64 q.cap, .slice none 0 0, .int .i64 0, .int .i64 0, .bool false, .int .i64 0, .int .i64 0, .int .i64 0, .int .i64 0, .int .i64 0, .int .i64 0, .int .i64 0, .int .i64 0, .int .i64 0, .int .i64 0, .int .i64 0, .int .i64 0] 62) := ⟨_, rfl⟩
  rw [← hw3] at M3 K4 ⊢
  obtain ⟨S, hS⟩ : ∃ z, z = w2.heap.size := ⟨_, rfl⟩
  rw [← hS] at M3 ⊢
  clear hw3 KS hS K3 K2 B1 B2
  have RB := Lib.hid (Mid.range K4.out 0 (box6 R) (by rfl))
  go_upto_region 8 with (first | ((with_reducible refine Mid.ldm 28 (.tmp 21) p2 0 (box6 R) RB.out ?_ ?_ ?_ ?_ ?_ ?_); (· rfl); (· rfl); (· first | rfl | simp [Act.eval]); (· exact ⟨_, rfl, rfl⟩); (· kernel_rfl)) | (go_at_call 36; refine (add_any HP.out M3.out R HP.out.good.rv (by decide) (by decide) (by decide)).mono ?_; rintro e w5 ⟨rfl, v5, h5, fr5⟩; have M5 := Lib.hid h5; clear h5 fr5))
  go_wp2_with fail
  go_loopw [9] (fun u wr => ∃ (u9 : Value) (k : Nat) (st : St) (v : Value), u = u9 ∧ Hid (SM w S R q wr v st) ∧ Hid (Inv Ak R st) ∧ Hid (st.tk + (k : Int) = 3000) ∧ Hid (run Ak tol k st = FN) ∧ Hid (st.fd = true ∨ st.m = 0)) (fun _ wr => 3001 - (intOf ((wr.cell? ⟨S, 13, none⟩).getD undef)).toNat)
  case atStart => exact ⟨_, 3000, add Ak start R, v5, rfl, M5, i0, g0, F0, Lib.hid (.inr rfl)⟩
  case round =>
    clear M5 i0 g0 F0 M3
    obtain ⟨u9, k, st, v, rfl, M, I, G, F, D⟩ := hrel
    obtain ⟨m0, m9⟩ := m_bd HP.out I.out D.out
    obtain ⟨b0, b9⟩ := b_bd HP.out I.out
    have L9 : st.op.length ≤ 60000 := by have := wgt_ge I.out.box; have := I.out.pot; have := I.out.tk0; have := HP.out.few; omega
    have E := Lib.hid (ended_any M.out (by omega) tol t0 t9 m0 m9 b0 b9)
    have c13 := Lib.hid (M.out.cell 13 (.int .i64 st.tk) rfl)
    clear m0 m9 b0 b9
    cases he : ended tol st with
    | true =>
      rw [he] at E
      have hst : st = FN := by
        have := F.out
        cases k with
        | zero => exact this
        | succ k => unfold run at this; rw [if_pos he] at this; exact this
      have := HE.out
      rw [← hst, he] at this
      exact absurd this (by decide)
    | false =>
      rw [he] at E
      have h0 : st.op.length ≠ 0 := fun z => by unfold ended at he; simp [z] at he
      obtain ⟨J, J1, J2⟩ := take_inv HP.out.good I.out h0
      rcases k with _ | k'
      · have ht0 : st.tk = 3000 := by have := G.out; omega
        replace he := Lib.hid he
        clear J J1 J2 F G I c13
        go_wp2_with (first | (go_at_call 37; refine E.out.mono ?_; rintro e w6 ⟨rfl, b6⟩; have M6 := Lib.hid (M.out.below b6); clear b6) | (go_at_call 38; refine (take_tries M6.out ht0).mono ?_; rintro e w7 ⟨rfl, b7⟩))
        go_ret2
        exact ⟨rfl, Buf.then_ M6.out.bel b7⟩
      have ht9 : st.tk ≤ 2999 := by have := G.out; omega
      have r1 := I.out.tk0
      have F2 := F.out
      unfold run at F2
      rw [if_neg (by simp [he])] at F2
      have G2 : (take Ak st).tk + (k' : Int) = 3000 := by have := G.out; omega
      replace F2 := Lib.hid F2
      replace G2 := Lib.hid G2
      replace J := Lib.hid J
      replace J1 := Lib.hid J1
      replace J2 := Lib.hid J2
      replace he := Lib.hid he
      replace h0 := Lib.hid h0
      clear F G
      go_wp2_with (first | (go_at_call 37; refine E.out.mono ?_; rintro e w6 ⟨rfl, b6⟩; have M6 := Lib.hid (M.out.below b6); clear b6) | (go_at_call 38; refine (take_any HP.out M6.out I.out h0.out ht9).mono ?_; rintro e w7 ⟨rfl, v7, h7⟩; have M7 := Lib.hid h7; clear h7))
      go_roundw
      case rel => exact ⟨_, k', take Ak st, v7, rfl, M7, J, G2, F2, Lib.hid (.inl J2.out)⟩
      case measure =>
        rw [c13.out, M7.out.cell 13 (.int .i64 (take Ak st).tk) rfl, J1.out]
        simp [intOf]; omega
end Loc
end Go.Proofs.YtldgihlhioeipaaGreat

/- locate.Boxes; locate.Locate. -/
set_option linter.unusedVariables false
set_option linter.unusedSimpArgs false
namespace Go.Proofs.YtldgihlhioeipaaGreat
open Go.RowKit Qt
namespace Loc
theorem Pr.below {A w : World} {Ak : Ask} {R : Bx} {q : Pq} (P : Pr A Ak R q) (hb : Below A.heap.size A w) : Pr w Ak R q :=
  ⟨fun w' h' => P.bound w' (Buf.then_ hb h'), fun w' h' => P.at_ w' (Buf.then_ hb h'), fun w' h' => P.vl w' (Buf.then_ hb h'), P.sp, P.good, P.bv, P.f0, P.g0, P.few⟩
set_option maxHeartbeats 8000000 in
set_option maxRecDepth 100000 in
theorem boxes_any {w : World} {Ak : Ask} {R : Bx} {q : Pq} (P : Pr w Ak R q) (tol : Int) (t0 : 0 ≤ tol) (t9 : tol ≤ 1000000) (he : ended tol (fin Ak R tol) = true) :
    Calls Tryz.prog 25 #[.agg #[.int .i64 R.a, .int .i64 R.b, .int .i64 R.c, .int .i64 R.d, .int .i64 R.e, .int .i64 R.f, .int .i64 q.s, .slice (some ⟨q.b1, 0, none⟩) q.n q.c1, .slice (some ⟨q.b2, 0, none⟩) q.n2 q.c2, .slice (some ⟨q.gp, 0, none⟩) q.nl q.cc, .int .i64 q.cap], .int .i64 tol] w fun e w' => e = .returned (.tuple #[.int .i64 (fin Ak R tol).tk, .int .i64 0]) ∧ Below w.heap.size w w' := by
  have K2 := Lib.hid (heap_alloc_new w (.cells #[.int .i64 R.a, .int .i64 R.b, .int .i64 R.c, .int .i64 R.d, .int .i64 R.e, .int .i64 R.f, .int .i64 q.s, .slice (some ⟨q.b1, 0, none⟩) q.n q.c1, .slice (some ⟨q.b2, 0, none⟩) q.n2 q.c2, .slice (some ⟨q.gp, 0, none⟩) q.nl q.cc, .int .i64 q.cap] 33))
  have B1 := Lib.hid (Mis.new_block (w := w) (.cells #[.int .i64 R.a, .int .i64 R.b, .int .i64 R.c, .int .i64 R.d, .int .i64 R.e, .int .i64 R.f, .int .i64 q.s, .slice (some ⟨q.b1, 0, none⟩) q.n q.c1, .slice (some ⟨q.b2, 0, none⟩) q.n2 q.c2, .slice (some ⟨q.gp, 0, none⟩) q.nl q.cc, .int .i64 q.cap] 33))
  have P1 := Lib.hid (P.below B1.out)
  obtain ⟨FN, hFN⟩ : ∃ z, z = fin Ak R tol := ⟨_, rfl⟩
  have RA := Lib.hid (run_any P1.out tol t0 t9 he)
  rw [← hFN] at RA ⊢
  clear P hFN
  go_enter Tryz.func25, Tryz.ntmps25
  go_upto_region 2 with (first | ((with_reducible refine Mid.ldr 33 (.tmp 2) w.heap.size 33 #[.int .i64 R.a, .int .i64 R.b, .int .i64 R.c, .int .i64 R.d, .int .i64 R.e, .int .i64 R.f, .int .i64 q.s, .slice (some ⟨q.b1, 0, none⟩) q.n q.c1, .slice (some ⟨q.b2, 0, none⟩) q.n2 q.c2, .slice (some ⟨q.gp, 0, none⟩) q.nl q.cc, .int .i64 q.cap] K2.out ?_ ?_ ?_ ?_ ?_ ?_); (· rfl); (· rfl); (· first | rfl | simp [Act.eval]); (· exact ⟨_, rfl, rfl⟩); (· kernel_rfl)) | (go_at_call 20; refine RA.out.mono ?_; rintro e w2 ⟨S, v, rfl, h2⟩))
  have M2 := Lib.hid h2
  have c13 := h2.cell 13 (.int .i64 FN.tk) rfl
  have B2 := Lib.hid (Buf.then_ B1.out h2.bel)
  clear h2
  go_wp2_with fail
  go_ret2
  exact ⟨rfl, B2.out⟩
/-- What Locate returns. -/
def lrow (FN : St) (lo : Int) (A : Bx) : List Value := [.int .i64 FN.x, .int .i64 FN.y, .int .i64 FN.z, .int .i64 FN.t, .int .i64 FN.m, .int .i64 (lo), .int .i64 A.a, .int .i64 A.b, .int .i64 A.c, .int .i64 A.d, .int .i64 A.e, .int .i64 A.f]
theorem set_low (FN : St) (lo lo' : Int) (A : Bx) : (lrow FN lo A).toArray.setIfInBounds 5 (.int .i64 lo') = (lrow FN lo' A).toArray := rfl
theorem set_area (FN : St) (lo : Int) (A A' : Bx) : Mid.setMany (lrow FN lo A).toArray 6 (box6 A') = (lrow FN lo A').toArray := rfl
set_option maxHeartbeats 8000000 in
set_option maxRecDepth 100000 in
theorem locate_any {w : World} {Ak : Ask} {R : Bx} {q : Pq} (P : Pr w Ak R q) (tol : Int) (t0 : 0 ≤ tol) (t9 : tol ≤ 1000000) (he : ended tol (fin Ak R tol) = true) (hf : (fin Ak R tol).fd = true) (hi : Inv Ak R (fin Ak R tol)) :
    Calls Tryz.prog 7 #[.agg #[.int .i64 R.a, .int .i64 R.b, .int .i64 R.c, .int .i64 R.d, .int .i64 R.e, .int .i64 R.f, .int .i64 q.s, .slice (some ⟨q.b1, 0, none⟩) q.n q.c1, .slice (some ⟨q.b2, 0, none⟩) q.n2 q.c2, .slice (some ⟨q.gp, 0, none⟩) q.nl q.cc, .int .i64 q.cap], .int .i64 tol] w fun e w' => e = .returned (.tuple #[.agg (lrow (fin Ak R tol) (lowF (fin Ak R tol).m (fin Ak R tol).op) (areaF (fin Ak R tol).m (pb ((fin Ak R tol).x, (fin Ak R tol).y, (fin Ak R tol).z)) (fin Ak R tol).op)).toArray, .int .i64 0]) ∧ Below w.heap.size w w' := by
  have K2 := Lib.hid (heap_alloc_new w (.cells #[.int .i64 R.a, .int .i64 R.b, .int .i64 R.c, .int .i64 R.d, .int .i64 R.e, .int .i64 R.f, .int .i64 q.s, .slice (some ⟨q.b1, 0, none⟩) q.n q.c1, .slice (some ⟨q.b2, 0, none⟩) q.n2 q.c2, .slice (some ⟨q.gp, 0, none⟩) q.nl q.cc, .int .i64 q.cap] 33))
  have B1 := Lib.hid (Buf.then_ (Mis.new_block (w := w) (.cells #[.int .i64 R.a, .int .i64 R.b, .int .i64 R.c, .int .i64 R.d, .int .i64 R.e, .int .i64 R.f, .int .i64 q.s, .slice (some ⟨q.b1, 0, none⟩) q.n q.c1, .slice (some ⟨q.b2, 0, none⟩) q.n2 q.c2, .slice (some ⟨q.gp, 0, none⟩) q.nl q.cc, .int .i64 q.cap] 33)) (Mis.new_block (.cells #[.int .i64 0, .int .i64 0, .int .i64 0, .int .i64 0, .int .i64 0, .int .i64 0, .int .i64 0, .int .i64 0, .int .i64 0, .int .i64 0, .int .i64 0, .int .i64 0] 36)))
  have K2b := Lib.hid (Mis.hb (Mis.new_block (.cells #[.int .i64 0, .int .i64 0, .int .i64 0, .int .i64 0, .int .i64 0, .int .i64 0, .int .i64 0, .int .i64 0, .int .i64 0, .int .i64 0, .int .i64 0, .int .i64 0] 36)) K2.out)
  have K4 := Lib.hid (show ((w.alloc (.cells #[.int .i64 R.a, .int .i64 R.b, .int .i64 R.c, .int .i64 R.d, .int .i64 R.e, .int .i64 R.f, .int .i64 q.s, .slice (some ⟨q.b1, 0, none⟩) q.n q.c1, .slice (some ⟨q.b2, 0, none⟩) q.n2 q.c2, .slice (some ⟨q.gp, 0, none⟩) q.nl q.cc, .int .i64 q.cap] 33)).alloc (.cells #[.int .i64 0, .int .i64 0, .int .i64 0, .int .i64 0, .int .i64 0, .int .i64 0, .int .i64 0, .int .i64 0, .int .i64 0, .int .i64 0, .int .i64 0, .int .i64 0] 36)).heap[w.heap.size + 1]? = some (.cells #[.int .i64 0, .int .i64 0, .int .i64 0, .int .i64 0, .int .i64 0, .int .i64 0, .int .i64 0, .int .i64 0, .int .i64 0, .int .i64 0, .int .i64 0, .int .i64 0] 36 (0, 0)) by have := heap_alloc_new (w.alloc (.cells #[.int .i64 R.a, .int .i64 R.b, .int .i64 R.c, .int .i64 R.d, .int .i64 R.e, .int .i64 R.f, .int .i64 q.s, .slice (some ⟨q.b1, 0, none⟩) q.n q.c1, .slice (some ⟨q.b2, 0, none⟩) q.n2 q.c2, .slice (some ⟨q.gp, 0, none⟩) q.nl q.cc, .int .i64 q.cap] 33)) (.cells #[.int .i64 0, .int .i64 0, .int .i64 0, .int .i64 0, .int .i64 0, .int .i64 0, .int .i64 0, .int .i64 0, .int .i64 0, .int .i64 0, .int .i64 0, .int .i64 0] 36); simpa using this)
  have P1 := Lib.hid (P.below B1.out)
  obtain ⟨FN, hFN⟩ : ∃ z, z = fin Ak R tol := ⟨_, rfl⟩
  have RA := Lib.hid (run_any P1.out tol t0 t9 he)
  rw [← hFN] at RA hf hi ⊢
  have HI := Lib.hid hi
  have BV := Lib.hid P.bv
  have G0 := P.g0
  have F0 := P.f0
  obtain ⟨hin, hgt⟩ := hi.bst hf
  have hm := G0 _ hin
  rw [hgt] at hm
  have hmm : 0 ≤ FN.m ∧ FN.m ≤ 1125899906842624 := hm
  have hbd : Hid (∀ k, k < FN.op.length → 0 ≤ (g FN.op k).bd ∧ (g FN.op k).bd ≤ 1125899906842624) := Lib.hid fun k hk => by
    obtain ⟨x1, x2⟩ := hi.box _ (g_mem hk)
    rw [x2]; exact F0 _ x1
  have hn9 : FN.op.length ≤ 60000 := by have := wgt_ge hi.box; have := hi.pot; have := hi.tk0; have := P.few; omega
  obtain ⟨hm0, hm9⟩ := hmm
  have hin' := Lib.hid hin
  clear P hFN hi hf hgt hm hin G0 F0
  go_enter Tryz.func7, Tryz.ntmps7
  go_upto_region 1 with fail
  obtain ⟨w1, hw1⟩ : ∃ z, z = (w.alloc (.cells #[.int .i64 R.a, .int .i64 R.b, .int .i64 R.c, .int .i64 R.d, .int .i64 R.e, .int .i64 R.f, .int .i64 q.s, .slice (some ⟨q.b1, 0, none⟩) q.n q.c1, .slice (some ⟨q.b2, 0, none⟩) q.n2 q.c2, .slice (some ⟨q.gp, 0, none⟩) q.nl q.cc, .int .i64 q.cap] 33)).alloc (.cells #[.int .i64 0, .int .i64 0, .int .i64 0, .int .i64 0, .int .i64 0, .int .i64 0, .int .i64 0, .int .i64 0, .int .i64 0, .int .i64 0, .int .i64 0, .int .i64 0] 36) := ⟨_, rfl⟩
  rw [← hw1] at K2b K4 B1 RA ⊢
  clear hw1 K2
  go_upto_region 2 with (first | ((with_reducible refine Mid.ldr 33 (.tmp 2) w.heap.size 33 #[.int .i64 R.a, .int .i64 R.b, .int .i64 R.c, .int .i64 R.d, .int .i64 R.e, .int .i64 R.f, .int .i64 q.s, .slice (some ⟨q.b1, 0, none⟩) q.n q.c1, .slice (some ⟨q.b2, 0, none⟩) q.n2 q.c2, .slice (some ⟨q.gp, 0, none⟩) q.nl q.cc, .int .i64 q.cap] K2b.out ?_ ?_ ?_ ?_ ?_ ?_); (· rfl); (· rfl); (· first | rfl | simp [Act.eval]); (· exact ⟨_, rfl, rfl⟩); (· kernel_rfl)) | (go_at_call 20; refine RA.out.mono ?_; rintro e w2 ⟨S, v, rfl, h2⟩; have M2 := Lib.hid h2; have K5 := Lib.hid (Mis.hb h2.bel K4.out); have B2 := Lib.hid (Buf.then_ B1.out h2.bel); clear h2))
  have RL := Lib.hid (Mid.range M2.out.blk 15 #[.int .i64 FN.x, .int .i64 FN.y, .int .i64 FN.z, .int .i64 FN.t, .int .i64 FN.m, .int .i64 0, .int .i64 0, .int .i64 0, .int .i64 0, .int .i64 0, .int .i64 0, .int .i64 0].toList (by rfl))
  go_upto_region 5 with (first | ((with_reducible refine Mid.ldm 36 (.tmp 23) S 15 #[.int .i64 FN.x, .int .i64 FN.y, .int .i64 FN.z, .int .i64 FN.t, .int .i64 FN.m, .int .i64 0, .int .i64 0, .int .i64 0, .int .i64 0, .int .i64 0, .int .i64 0, .int .i64 0].toList RL.out ?_ ?_ ?_ ?_ ?_ ?_); (· rfl); (· rfl); (· first | rfl | simp [Act.eval]); (· exact ⟨_, rfl, rfl⟩); (· kernel_rfl)) | ((with_reducible refine Mid.str 36 (.tmp 8) (.tmp 24) w2.heap.size 36 #[.int .i64 0, .int .i64 0, .int .i64 0, .int .i64 0, .int .i64 0, .int .i64 0, .int .i64 0, .int .i64 0, .int .i64 0, .int .i64 0, .int .i64 0, .int .i64 0] #[.int .i64 FN.x, .int .i64 FN.y, .int .i64 FN.z, .int .i64 FN.t, .int .i64 FN.m, .int .i64 0, .int .i64 0, .int .i64 0, .int .i64 0, .int .i64 0, .int .i64 0, .int .i64 0] (heap_alloc_new w2 _) ?_ ?_ ?_ ?_ ?_ ?_ ?_ ?_); (· rfl); (· rfl); (· first | rfl | simp [Act.eval]); (· first | rfl | simp [Act.eval]); (· kernel_rfl); (· rfl); (· simp [Value.oneCell'])))
  try simp only [Act.put]
  have N3 : Below w2.heap.size w2 ((w2.alloc (.cells #[.int .i64 0, .int .i64 0, .int .i64 0, .int .i64 0, .int .i64 0, .int .i64 0, .int .i64 0, .int .i64 0, .int .i64 0, .int .i64 0, .int .i64 0, .int .i64 0] 36)).setRow w2.heap.size #[.int .i64 FN.x, .int .i64 FN.y, .int .i64 FN.z, .int .i64 FN.t, .int .i64 FN.m, .int .i64 0, .int .i64 0, .int .i64 0, .int .i64 0, .int .i64 0, .int .i64 0, .int .i64 0]) := Mid.below_row (Mis.new_block _) _ _ (Nat.le_refl _)
  have K8 := Lib.hid (show ((w2.alloc (.cells #[.int .i64 0, .int .i64 0, .int .i64 0, .int .i64 0, .int .i64 0, .int .i64 0, .int .i64 0, .int .i64 0, .int .i64 0, .int .i64 0, .int .i64 0, .int .i64 0] 36)).setRow w2.heap.size #[.int .i64 FN.x, .int .i64 FN.y, .int .i64 FN.z, .int .i64 FN.t, .int .i64 FN.m, .int .i64 0, .int .i64 0, .int .i64 0, .int .i64 0, .int .i64 0, .int .i64 0, .int .i64 0]).heap[w2.heap.size]? = some (.cells (lrow FN 0 ⟨0, 0, 0, 0, 0, 0⟩).toArray 36 (0, 0)) from setRow_heap _ _ _ _ _ _ (heap_alloc_new w2 _))
  obtain ⟨w3, hw3⟩ : ∃ z, z = (w2.alloc (.cells #[.int .i64 0, .int .i64 0, .int .i64 0, .int .i64 0, .int .i64 0, .int .i64 0, .int .i64 0, .int .i64 0, .int .i64 0, .int .i64 0, .int .i64 0, .int .i64 0] 36)).setRow w2.heap.size #[.int .i64 FN.x, .int .i64 FN.y, .int .i64 FN.z, .int .i64 FN.t, .int .i64 FN.m, .int .i64 0, .int .i64 0, .int .i64 0, .int .i64 0, .int .i64 0, .int .i64 0, .int .i64 0] := ⟨_, rfl⟩
  rw [← hw3] at N3 K8 ⊢
  obtain ⟨p8, hp8⟩ : ∃ z, z = w2.heap.size := ⟨_, rfl⟩
  rw [← hp8] at K8 ⊢
  have hp8' : w2.heap.size ≤ p8 := by omega
  clear hw3 RL hp8
  replace N3 := Lib.hid N3
  have c4 := cell_of_row w3 p8 4 _ _ _ K8.out
  have c5 := cell_of_row w3 p8 5 _ _ _ K8.out
  have f5 := frozen_of_row w3 p8 5 _ _ K8.out
  replace c4 : w3.cell? ⟨p8, 4, none⟩ = some (.int .i64 FN.m) := c4
  replace c5 : w3.cell? ⟨p8, 5, none⟩ = some (.int .i64 0) := c5
  go_upto_region 6 with fail
  have K9 := Lib.hid ((heap_setCell_same w3 p8 5 _ _ (.int .i64 FN.m) K8.out).trans (by rw [set_low]))
  have N4 := Lib.hid (N3.out.setCell (p := ⟨p8, 5, none⟩) hp8' (.int .i64 FN.m))
  obtain ⟨w4, hw4⟩ : ∃ z, z = w3.setCell ⟨p8, 5, none⟩ (.int .i64 FN.m) := ⟨_, rfl⟩
  rw [← hw4] at K9 N4 ⊢
  clear hw4 c4 c5 f5 K8 N3
  have R3 := Lib.hid (Mid.range K9.out 0 [.int .i64 FN.x, .int .i64 FN.y, .int .i64 FN.z] (by rfl))
  have T6 := Lib.hid (Mid.there K9.out 6 6 (show 6 + 6 ≤ 12 from Nat.le_refl _))
  obtain ⟨A0, hA0⟩ : ∃ z, z = pb (FN.x, FN.y, FN.z) := ⟨_, rfl⟩
  have sA0 : Sb R A0 := by rw [hA0]; exact pb_sub hin'.out
  go_upto_region 7 with (first | ((with_reducible refine Mid.ldm 26 (.tmp 28) p8 0 [.int .i64 FN.x, .int .i64 FN.y, .int .i64 FN.z] R3.out ?_ ?_ ?_ ?_ ?_ ?_); (· rfl); (· rfl); (· first | rfl | simp [Act.eval]); (· exact ⟨_, rfl, rfl⟩); (· kernel_rfl)) | ((with_reducible refine Mid.ldm 26 (.tmp 30) p8 0 [.int .i64 FN.x, .int .i64 FN.y, .int .i64 FN.z] R3.out ?_ ?_ ?_ ?_ ?_ ?_); (· rfl); (· rfl); (· first | rfl | simp [Act.eval]); (· exact ⟨_, rfl, rfl⟩); (· kernel_rfl)) | ((with_reducible refine Mid.stm 28 (.tmp 33) (.tmp 32) p8 6 6 [.int .i64 FN.x, .int .i64 FN.y, .int .i64 FN.z, .int .i64 FN.x, .int .i64 FN.y, .int .i64 FN.z] T6.out ?_ ?_ ?_ ?_ ?_ ?_ ?_ ?_); (· rfl); (· rfl); (· first | rfl | simp [Act.eval]); (· first | rfl | simp [Act.eval]); (· rfl); (· kernel_rfl); (· simp [Value.oneCell'])))
  try simp only [Act.put]
  have K10 := Lib.hid ((Mid.heap_set p8 36 (box6 A0) 6 w4 _ K9.out).trans (by rw [set_area]))
  have N5 := Lib.hid (Mid.below _ _ _ hp8' (box6 A0) 6 _ N4.out)
  rw [hA0] at K10 N5
  obtain ⟨w5, hw5⟩ : ∃ z, z = w4.setCells p8 6 [.int .i64 FN.x, .int .i64 FN.y, .int .i64 FN.z, .int .i64 FN.x, .int .i64 FN.y, .int .i64 FN.z] := ⟨_, rfl⟩
  replace K10 : Hid (w5.heap[p8]? = some (.cells (lrow FN FN.m (pb (FN.x, FN.y, FN.z))).toArray 36 (0, 0))) := Lib.hid (by rw [hw5]; exact K10.out)
  replace N5 : Hid (Below w2.heap.size w2 w5) := Lib.hid (by rw [hw5]; exact N5.out)
  rw [← hA0] at K10
  rw [← hw5]
  clear hw5 R3 T6 K9 N4
  have M5 := Lib.hid (M2.out.below N5.out)
  obtain ⟨ad, n, cc, rfl, hnl⟩ := Mis.own_letter M2.out.own
  have c11 := M5.out.cell 11 (.slice ad n cc) rfl
  replace hA0 := Lib.hid hA0
  have sA0h := Lib.hid sA0
  have BW5 := N5
  have HBX := Lib.hid HI.out.box
  clear sA0 M5 HI
  go_wp2_with fail
  go_loopw [39] (fun u wr => ∃ k : Nat, u = .int .i64 (k : Int) ∧ k ≤ n ∧ Hid (Below w2.heap.size w2 wr) ∧ Hid (wr.heap[p8]? = some (.cells (lrow FN (lowF FN.m (FN.op.take k)) (areaF FN.m A0 (FN.op.take k))).toArray 36 (0, 0)))) (fun u _ => n - (intOf u).toNat)
  case atStart => exact ⟨0, rfl, Nat.zero_le _, BW5, K10⟩
  case round =>
    clear BW5 K10 N5 c11
    obtain ⟨k, rfl, hk, BW, K⟩ := hrel
    by_cases hkn : k < n
    · have hko : k < FN.op.length := by rw [← hnl.out]; exact hkn
      obtain ⟨b, rfl, hl2, _, hbl⟩ := M2.out.own.addr (by omega)
      have k1 : (k : Int) < (n : Int) := by omega
      obtain ⟨o, ho⟩ : ∃ o, o = g FN.op k := ⟨_, rfl⟩
      have MW := Lib.hid (M2.out.below BW.out)
      have RG := Lib.hid (OwnQ.range MW.out.own hko)
      obtain ⟨sbo, _⟩ := HBX.out _ (g_mem hko)
      obtain ⟨bd0, bd9⟩ := hbd.out k hko
      rw [← ho] at RG sbo bd0 bd9
      have hlo := lowF_snoc FN.m (FN.op.take k) o
      have har := areaF_snoc FN.m A0 (FN.op.take k) o
      have htk := take_g hko
      rw [← ho] at htk
      rw [← htk] at hlo har
      have hsb := (areaF_all (R := R) FN.m (FN.op.take k) A0 sA0h.out fun o' ho' => (HBX.out o' (List.mem_of_mem_take ho')).1).1
      have hl0 := (lowF_all (FN.op.take k) FN.m)
      have hlb : lowF FN.m (FN.op.take k) ≤ FN.m := hl0.1.1
      have hlc : 0 ≤ lowF FN.m (FN.op.take k) := by
        rcases hl0.2 with e | ⟨o', ho', e⟩
        · omega
        · rw [e]
          obtain ⟨j, hj⟩ := List.getElem?_of_mem (List.mem_of_mem_take ho')
          have hj' := (List.getElem?_eq_some_iff.1 hj).1
          have := (hbd.out j hj').1
          have hg : g FN.op j = o' := by unfold g; rw [List.getD_eq_getElem?_getD, hj]; rfl
          rw [hg] at this; exact this
      obtain ⟨lo, hloe⟩ : ∃ z, z = lowF FN.m (FN.op.take k) := ⟨_, rfl⟩
      obtain ⟨A, hAe⟩ : ∃ z, z = areaF FN.m A0 (FN.op.take k) := ⟨_, rfl⟩
      rw [← hloe] at hlo hlb hlc
      rw [← hAe] at har hsb
      rw [← hloe, ← hAe] at K
      obtain ⟨bd, hbde⟩ : ∃ z, z = o.bd := ⟨_, rfl⟩
      rw [← hbde] at bd0 bd9 hlo har
      have bvA := Lib.hid (BV.out A hsb)
      have bvO := Lib.hid (BV.out o.bx sbo)
      replace hlo := Lib.hid hlo
      replace har := Lib.hid har
      replace hloe := Lib.hid hloe
      replace hAe := Lib.hid hAe
      replace hbde := Lib.hid hbde
      replace ho := Lib.hid ho
      replace htk := Lib.hid htk
      replace hl2 := Lib.hid hl2
      clear hl0 hsb sbo MW
      go_upto_region 10 with (first | ((with_reducible refine Mid.ldm 64 (.tmp 41) b (k * 8) (row8 o) RG.out ?_ ?_ ?_ ?_ ?_ ?_); (· rfl); (· rfl); (· first | rfl | simp [Act.eval]); (· exact ⟨_, rfl, rfl⟩); (· kernel_rfl)) | ((with_reducible refine Mid.str 64 (.tmp 10) (.tmp 42) wr.heap.size 64 #[.int .i64 0, .int .i64 0, .int .i64 0, .int .i64 0, .int .i64 0, .int .i64 0, .int .i64 0, .int .i64 0] (row8 o).toArray (heap_alloc_new wr _) ?_ ?_ ?_ ?_ ?_ ?_ ?_ ?_); (· rfl); (· rfl); (· first | rfl | simp [Act.eval]); (· first | rfl | simp [Act.eval]); (· kernel_rfl); (· rfl); (· exact row8_all _)))
      try simp only [Act.put]
      have N6 : Below wr.heap.size wr ((wr.alloc (.cells #[.int .i64 0, .int .i64 0, .int .i64 0, .int .i64 0, .int .i64 0, .int .i64 0, .int .i64 0, .int .i64 0] 64)).setRow wr.heap.size (row8 o).toArray) := Mid.below_row (Mis.new_block _) _ _ (Nat.le_refl _)
      have K6 := Lib.hid (show ((wr.alloc (.cells #[.int .i64 0, .int .i64 0, .int .i64 0, .int .i64 0, .int .i64 0, .int .i64 0, .int .i64 0, .int .i64 0] 64)).setRow wr.heap.size (row8 o).toArray).heap[wr.heap.size]? = some (.cells (row8 o).toArray 64 (0, 0)) from setRow_heap _ _ _ _ _ _ (heap_alloc_new wr _))
      have K7 := Lib.hid (Mis.hb N6 K.out)
      have BW6 := Lib.hid (Buf.then_ BW.out N6)
      have hp10 : wr.heap.size ≠ p8 := by have := (Array.getElem?_eq_some_iff.1 K.out).1; omega
      obtain ⟨w6, hw6⟩ : ∃ z, z = (wr.alloc (.cells #[.int .i64 0, .int .i64 0, .int .i64 0, .int .i64 0, .int .i64 0, .int .i64 0, .int .i64 0, .int .i64 0] 64)).setRow wr.heap.size (row8 o).toArray := ⟨_, rfl⟩
      rw [← hw6] at K6 K7 BW6 ⊢
      obtain ⟨p10, hpe⟩ : ∃ z, z = wr.heap.size := ⟨_, rfl⟩
      rw [← hpe] at K6 hp10 ⊢
      clear hw6 hpe N6 RG K BW
      have c5 : w6.cell? ⟨p8, 5, none⟩ = some (.int .i64 lo) := cell_of_row w6 p8 5 _ _ _ K7.out
      have f5 := frozen_of_row w6 p8 5 _ _ K7.out
      have d6 : w6.cell? ⟨p10, 6, none⟩ = some (.int .i64 bd) := by rw [hbde.out]; exact cell_of_row w6 p10 6 _ _ _ K6.out
      go_upto_region 11 with fail
      have K9 := Lib.hid ((heap_setCell_same w6 p8 5 _ _ (.int .i64 (min lo bd)) K7.out).trans (by rw [set_low]))
      have K10 := Lib.hid ((Below.heap_setCell w6 ⟨p8, 5, none⟩ (.int .i64 (min lo bd)) p10 hp10).trans K6.out)
      have BW7 := Lib.hid (BW6.out.setCell (p := ⟨p8, 5, none⟩) hp8' (.int .i64 (min lo bd)))
      obtain ⟨w7, hw7⟩ : ∃ z, z = w6.setCell ⟨p8, 5, none⟩ (.int .i64 (min lo bd)) := ⟨_, rfl⟩
      rw [← hw7] at K9 K10 BW7 ⊢
      clear hw7 c5 f5 d6 K6 K7 BW6
      have d6 : w7.cell? ⟨p10, 6, none⟩ = some (.int .i64 bd) := by rw [hbde.out]; exact cell_of_row w7 p10 6 _ _ _ K10.out
      have c4 : w7.cell? ⟨p8, 4, none⟩ = some (.int .i64 FN.m) := cell_of_row w7 p8 4 _ _ _ K9.out
      by_cases hc : bd < FN.m
      · have har2 := har.out
        rw [if_pos hc] at har2
        replace har2 := Lib.hid har2
        have RA := Lib.hid (Mid.range K9.out 6 (box6 A) (by rfl))
        have RO := Lib.hid (Mid.range K10.out 0 (box6 o.bx) (by rfl))
        have T6 := Lib.hid (Mid.there K9.out 6 6 (show 6 + 6 ≤ 12 from Nat.le_refl _))
        have HU := Lib.hid (Geo.hull_yes A.a A.b A.c A.d A.e A.f o.a o.b o.c o.d o.e o.f bvA.out bvO.out w7)
        have K9h := K9
        go_upto_region 13 with (first | ((with_reducible refine Mid.ldm 28 (.tmp 54) p8 6 (box6 A) RA.out ?_ ?_ ?_ ?_ ?_ ?_); (· rfl); (· rfl); (· first | rfl | simp [Act.eval]); (· exact ⟨_, rfl, rfl⟩); (· kernel_rfl)) | ((with_reducible refine Mid.ldm 28 (.tmp 56) p10 0 (box6 o.bx) RO.out ?_ ?_ ?_ ?_ ?_ ?_); (· rfl); (· rfl); (· first | rfl | simp [Act.eval]); (· exact ⟨_, rfl, rfl⟩); (· kernel_rfl)) | (go_at_call 21; refine HU.out.mono ?_; rintro e w8 ⟨rfl, b8⟩; have K11 := Lib.hid (Mis.hb b8 K9h.out); have BW8 := Lib.hid (Buf.then_ BW7.out b8); have T8 := Lib.hid (Mid.there K11.out 6 6 (show 6 + 6 ≤ 12 from Nat.le_refl _)); clear b8) | ((with_reducible refine Mid.stm 28 (.tmp 59) (.tmp 58) p8 6 6 (box6 (hull A o.bx)) T8.out ?_ ?_ ?_ ?_ ?_ ?_ ?_ ?_); (· rfl); (· rfl); (· first | rfl | simp [Act.eval]); (· first | rfl | simp [Act.eval]); (· rfl); (· kernel_rfl); (· simp [box6, Value.oneCell'])))
        try simp only [Act.put]
        have K12 := Lib.hid ((Mid.heap_set p8 36 (box6 (hull A o.bx)) 6 w8 _ K11.out).trans (by rw [set_area]))
        have BW9 := Lib.hid (Mid.below _ _ _ hp8' (box6 (hull A o.bx)) 6 _ BW8.out)
        obtain ⟨w9, hw9⟩ : ∃ z, z = w8.setCells p8 6 (box6 (hull A o.bx)) := ⟨_, rfl⟩
        rw [← hw9] at K12 BW9 ⊢
        clear hw9 K11 BW8 T8 T6 RA RO HU c4 d6
        go_wp2_with fail
        go_roundw
        case rel => exact ⟨k + 1, by go_num, by omega, BW9, Lib.hid (by rw [hlo.out, har2.out]; exact K12.out)⟩
        case measure => simp [intOf]; omega
      · have har2 := har.out
        rw [if_neg hc] at har2
        replace har2 := Lib.hid har2
        go_wp2_with fail
        go_roundw
        case rel => exact ⟨k + 1, by go_num, by omega, BW7, Lib.hid (by rw [hlo.out, har2.out]; exact K9.out)⟩
        case measure => simp [intOf]; omega
    · obtain rfl : k = n := by omega
      have hall : FN.op.take k = FN.op := List.take_of_length_le (by rw [hnl.out]; exact Nat.le_refl _)
      rw [hall, hA0.out] at K
      have K5b := Lib.hid (Mis.hb BW.out K5.out)
      clear hall
      obtain ⟨lo, hlo⟩ : ∃ z, z = lowF FN.m FN.op := ⟨_, rfl⟩
      obtain ⟨AA, hAA⟩ : ∃ z, z = areaF FN.m (pb (FN.x, FN.y, FN.z)) FN.op := ⟨_, rfl⟩
      rw [← hlo, ← hAA] at K
      replace hlo := Lib.hid hlo
      replace hAA := Lib.hid hAA
      go_wp2_with (first | ((with_reducible refine Mid.ldr 36 (.tmp 8) p8 36 (lrow FN lo AA).toArray K.out ?_ ?_ ?_ ?_ ?_ ?_); (· rfl); (· rfl); (· first | rfl | simp [Act.eval]); (· exact ⟨_, rfl, rfl⟩); (· kernel_rfl)) | ((with_reducible refine Mid.str 36 (.tmp 4) (.tmp 61) (w.heap.size + 1) 36 #[.int .i64 0, .int .i64 0, .int .i64 0, .int .i64 0, .int .i64 0, .int .i64 0, .int .i64 0, .int .i64 0, .int .i64 0, .int .i64 0, .int .i64 0, .int .i64 0] (lrow FN lo AA).toArray K5b.out ?_ ?_ ?_ ?_ ?_ ?_ ?_ ?_); (· rfl); (· rfl); (· first | rfl | simp [Act.eval]); (· first | rfl | simp [Act.eval]); (· kernel_rfl); (· rfl); (· simp [lrow, Value.oneCell'])))
      try simp only [Act.put]
      have ZF : (wr.setRow (w.heap.size + 1) (lrow FN lo AA).toArray).heap[w.heap.size + 1]? = some (.cells (lrow FN lo AA).toArray 36 (0, 0)) := setRow_heap _ _ _ _ _ _ K5b.out
      exact bodyPost_ret (Res.row_tmp rfl _ _ (w.heap.size + 1) _ _ _ _ rfl ZF rfl (by rfl) rfl) rfl ⟨(by rw [← hlo.out, ← hAA.out]; rfl), Mid.below_row (B2.out.trans (BW.out.mono B2.out.size)) _ _ (by omega)⟩
end Loc
end Go.Proofs.YtldgihlhioeipaaGreat

/- The problems of the laws as searches. -/
set_option linter.unusedVariables false
set_option linter.unusedSimpArgs false
namespace Go.Proofs.YtldgihlhioeipaaGreat
open Go.RowKit
namespace Loc
theorem sub_of {R B : Bx} (h : Sb R B) : Mis.Sub R.a R.b R.c R.d R.e R.f B.a B.b B.c B.d B.e B.f := ⟨h.a, h.b, h.c, h.x, h.y, h.z, h.d, h.e, h.f⟩
theorem sub_pt {R : Bx} {p : P3} (h : inB R p) : Mis.Sub R.a R.b R.c R.d R.e R.f p.1 p.2.1 p.2.2 p.1 p.2.1 p.2.2 := Mis.Sub.pt h.1 h.2.1 h.2.2.1 h.2.2.2.1 h.2.2.2.2.1 h.2.2.2.2.2
def Fm (s : Int) (lo hi : List Int) (cap : Int) (L : List Mis.Ph) (B : Bx) : Int := (Mis.mf s lo hi cap B.a B.b B.c B.d B.e B.f L).2
def Gm (s : Int) (lo hi : List Int) (cap : Int) (L : List Mis.Ph) (p : P3) : Int × Int := Mis.mf s lo hi cap p.1 p.2.1 p.2.2 p.1 p.2.1 p.2.2 L
/-- How boxes are split. -/
def Spl (R : Bx) (S : Bx → Bx × Bx) : Prop := ∀ B, Sb R B → one B = false →
  (∀ w, Calls Tryz.prog 62 #[.agg (box6 B).toArray] w fun e w' => e = .returned (.tuple #[.agg (box6 (S B).1).toArray, .agg (box6 (S B).2).toArray, .bool true]) ∧ Below w.heap.size w w') ∧
  (Sb B (S B).1 ∧ Sb B (S B).2 ∧ np (S B).1 + np (S B).2 = np B ∧ ∀ p, inB B p → inB (S B).1 p ∨ inB (S B).2 p)
theorem bv_sub {R B : Bx} (hR : Geo.BV R.a R.b R.c R.d R.e R.f) (h : Sb R B) : Geo.BV B.a B.b B.c B.d B.e B.f := (sub_of h).bv hR
theorem spl_of {R : Bx} (hR : Geo.BV R.a R.b R.c R.d R.e R.f) : ∃ S, Spl R S := by
  refine Classical.axiomOfChoice (r := fun B (r : Bx × Bx) => Sb R B → one B = false →
    (∀ w, Calls Tryz.prog 62 #[.agg (box6 B).toArray] w fun e w' => e = .returned (.tuple #[.agg (box6 r.1).toArray, .agg (box6 r.2).toArray, .bool true]) ∧ Below w.heap.size w w') ∧
    (Sb B r.1 ∧ Sb B r.2 ∧ np r.1 + np r.2 = np B ∧ ∀ p, inB B p → inB r.1 p ∨ inB r.2 p)) fun B => ?_
  by_cases h : Sb R B ∧ one B = false
  · obtain ⟨h1, h2⟩ := h
    have bv := bv_sub hR h1
    have h3 : 2 ≤ Geo.pts B.a B.b B.c B.d B.e B.f := by
      by_cases h4 : Geo.pts B.a B.b B.c B.d B.e B.f < 2
      · have h5 := Geo.pts_one bv h4
        unfold one at h2
        simp at h2
        exact absurd h5.2.2 (h2 h5.1 h5.2.1)
      · omega
    obtain ⟨x1, x2, x3, x4, x5, x6, y1, y2, y3, y4, y5, y6, hc, hh⟩ := Geo.split_two B.a B.b B.c B.d B.e B.f bv h3
    refine ⟨(⟨x1, x2, x3, x4, x5, x6⟩, ⟨y1, y2, y3, y4, y5, y6⟩), fun _ _ => ⟨hc, ?_, ?_, hh.num, fun p hp => ?_⟩⟩
    · obtain ⟨w1, w2, w3, w4, w5, w6⟩ := hh.wx
      exact ⟨w1, w3, w5, w2, w4, w6, hh.bx.x, hh.bx.y, hh.bx.z⟩
    · obtain ⟨w1, w2, w3, w4, w5, w6⟩ := hh.wy
      exact ⟨w1, w3, w5, w2, w4, w6, hh.bY.x, hh.bY.y, hh.bY.z⟩
    · unfold inB at hp
      have h6 := hh.part p.1 p.2.1 p.2.2 hp.1 hp.2.1 hp.2.2.1 hp.2.2.2.1 hp.2.2.2.2.1 hp.2.2.2.2.2
      rw [Geo.wiB_pt, Geo.wiB_pt] at h6
      unfold inB
      by_cases h7 : x1 ≤ p.1 ∧ p.1 ≤ x4 ∧ x2 ≤ p.2.1 ∧ p.2.1 ≤ x5 ∧ x3 ≤ p.2.2 ∧ p.2.2 ≤ x6
      · exact .inl h7
      · rw [decide_eq_false h7] at h6
        simp only [Bool.false_eq, Bool.not_eq_false', decide_eq_true_eq] at h6
        exact .inr h6
  · exact ⟨(B, B), fun h1 h2 => absurd ⟨h1, h2⟩ h⟩
section
variable {w : World} {gp cc nl : Nat} {L : List Mis.Ph} {R : Bx} {s : Int} {b1 b2 n : Nat} {cap : Int} {lo hi : List Int} {S : Bx → Bx × Bx}
theorem pr_of (hR : Mis.Rg R.a R.b R.c R.d R.e R.f) (W : Bound.Wide w s b1 b2 n lo hi) (hL : Mis.PhAllS L) (n1 : 1 ≤ L.length) (n9 : L.length ≤ 64) (c0 : 1 ≤ cap) (c9 : cap ≤ 2000) (hp : Mis.PhR w gp L) (hn : nl = L.length) (hc : nl ≤ cc) (c1 c2 : Nat) (hS : Spl R S) (few : 2 * np R - 1 ≤ 60000) :
    Pr w ⟨Fm s lo hi cap L, Gm s lo hi cap L, S⟩ R ⟨s, b1, n, c1, b2, n, c2, gp, nl, cc, cap⟩ where
  bound w' h' B hB := Mis.bound_of hR (W.below h') hL n1 n9 c0 c9 (hp.below h') hn hc c1 c2 B.a B.b B.c B.d B.e B.f (sub_of hB)
  at_ w' h' p hp' := Mis.at_of hR (W.below h') hL n1 n9 c0 c9 (hp.below h') hn hc c1 c2 p.1 p.2.1 p.2.2 (sub_pt hp')
  vl w' h' := Mis.validate_any (Mis.pk_of c1 c2 hR hL n1 n9 c0 c9) (W.below h') (hp.below h') hn hc
  sp B hB h1 := (hS B hB h1).1
  good := ⟨⟨Int.le_refl _, Int.le_refl _, Int.le_refl _, Int.le_refl _, Int.le_refl _, Int.le_refl _, hR.bv.x, hR.bv.y, hR.bv.z⟩, fun B hB h1 => (hS B hB h1).2⟩
  bv B hB := bv_sub hR.bv hB
  f0 B hB := by
    have h := Mis.best_bd hR (sub_of hB) W hL n1 n9 c0 c9
    exact ⟨h.1, by have := h.2.1; show (Mis.best _ _ _ _).2 ≤ _; omega⟩
  g0 p hp' := by
    have h := Mis.best_bd hR (sub_pt hp') W hL n1 n9 c0 c9
    exact ⟨h.1, by have := h.2.1; show (Mis.best _ _ _ _).2 ≤ _; omega⟩
  few := few
/-- The bound of a box is at most the misfit of each of its points. -/
theorem mono_of (hR : Mis.Rg R.a R.b R.c R.d R.e R.f) (W : Bound.Wide w s b1 b2 n lo hi) (hL : Mis.PhAllS L) (n1 : 1 ≤ L.length) (c0 : 1 ≤ cap) (B : Bx) (p : P3) (hB : Sb R B) (hp : inB B p) : Fm s lo hi cap L B ≤ (Gm s lo hi cap L p).2 :=
  Mis.best_sub hR (sub_of hB) (sub_pt (inB_sub hB hp)) (sub_pt hp) W hL n1 c0
end
theorem few_of {R : Bx} (side : Int) (s9 : side ≤ 30) (hR : Sb R R) (h1 : R.d ≤ R.a + side) (h2 : R.e ≤ R.b + side) (h3 : R.f ≤ R.c + side) : 2 * np R - 1 ≤ 60000 := by
  have x := hR.x; have y := hR.y; have z := hR.z
  have a : (R.d - R.a + 1) * (R.e - R.b + 1) ≤ 31 * 31 := Int.mul_le_mul (by omega) (by omega) (by omega) (by omega)
  have a0 : 0 ≤ (R.d - R.a + 1) * (R.e - R.b + 1) := Int.mul_nonneg (by omega) (by omega)
  have b : (R.d - R.a + 1) * (R.e - R.b + 1) * (R.f - R.c + 1) ≤ 961 * 31 := Int.mul_le_mul (by omega) (by omega) (by omega) (by omega)
  unfold np; omega
end Loc
end Go.Proofs.YtldgihlhioeipaaGreat

/- The example of the chapter. -/
set_option linter.unusedVariables false
set_option linter.unusedSimpArgs false
namespace Go.Proofs.YtldgihlhioeipaaGreat
open Go.RowKit
namespace Loc
open Mis
theorem intsU {w : World} {b : Nat} {u : Int} (h : w.heap[b]? = some (.cells #[.int .i64 0, .int .i64 u] 3 (0, 0))) : Src.Ints w b [0, u] := by
  intro j hj
  obtain ⟨h0, h1⟩ := cell2 h
  simp at hj
  obtain rfl | rfl : j = 0 ∨ j = 1 := by omega
  · exact h0
  · exact h1
def OT (b1 b2 : Nat) (w : World) : Prop := Trav.TV w 10 b1 b2 2 [0, 5] [0, 7]
theorem one_tv {w : World} {b1 b2 : Nat} (h1 : w.heap[b1]? = some (.cells #[.int .i64 0, .int .i64 5] 3 (0, 0))) (h2 : w.heap[b2]? = some (.cells #[.int .i64 0, .int .i64 7] 3 (0, 0))) : OT b1 b2 w :=
  ⟨intsU h1, intsU h2, rfl, rfl, by decide, by decide, by decide, by decide, fun k hk => by rcases (show k = 0 ∨ k = 1 by omega) with rfl | rfl <;> decide,
    fun i j hij hj => by
      rcases (show j = 0 ∨ j = 1 by omega) with rfl | rfl <;> rcases (show i = 0 ∨ i = 1 by omega) with rfl | rfl <;> first | decide | omega, (Array.getElem?_eq_some_iff.1 h1).1, (Array.getElem?_eq_some_iff.1 h2).1⟩
def po : Ph := ⟨0, 0, 0, 100, 102, 1⟩
theorem po_only {k : Nat} {q : Ph} (h : [po][k]? = some q) : q = po := by
  rcases k with _ | k <;> simp at h
  exact h.symm
theorem one_pk (b1 b2 : Nat) : Pk (OT b1 b2) 0 0 0 0 0 0 10 b1 b2 2 2 2 3 [po] := by
  refine ⟨fun w w' h hb => Trav.TV.below h hb, bv0, fun w h => Trav.validate_yes 10 b1 b2 2 2 2 [0, 5] [0, 7] w h, by decide, by decide, by decide, by decide, fun k q h => ?_, fun k q h w ht => ?_⟩
  · obtain rfl := po_only h
    exact ⟨pv0, by decide, by decide, by decide, by decide, by decide⟩
  · obtain rfl := po_only h
    refine (Bound.interval_ok 10 b1 b2 2 2 2 [0, 5] [0, 7] 0 0 0 0 0 0 0 0 0 0 0 w ht bv0 pv0 ?_ ?_ ?_).mono fun e w' ⟨he, hb⟩ => ⟨⟨_, _, he⟩, hb⟩
    · rw [far0, ce0]; decide
    · rw [near0, rt0]; decide
    · rw [far0, ce0]; decide
theorem one_zone (b1 b2 : Nat) (k : Nat) (q : Ph) (h : [po][k]? = some q) (w : World) (ht : OT b1 b2 w) :
    Calls Tryz.prog 75 #[.agg #[.int .i64 10, .slice (some ⟨b1, 0, none⟩) 2 2, .slice (some ⟨b2, 0, none⟩) 2 2], .agg #[.int .i64 0, .int .i64 0, .int .i64 0, .int .i64 0, .int .i64 0, .int .i64 0], .agg #[.int .i64 q.x, .int .i64 q.y, .int .i64 q.z, .int .i64 q.E, .int .i64 q.L, .int .i64 q.W]] w fun r w' => r = .returned (.tuple #[.agg #[.int .i64 (q.E, q.L).1, .int .i64 (q.E, q.L).2], .int .i64 0]) ∧ Below w.heap.size w w' := by
  obtain rfl := po_only h
  have := Bound.zone_ok 10 b1 b2 2 2 2 [0, 5] [0, 7] 0 0 0 0 0 0 0 0 0 100 102 1 0 0 w ht bv0 ⟨pv0, by decide, by decide, by decide, by decide, by decide⟩ (by rw [far0, ce0]; decide) (by rw [near0, rt0]; decide) (by rw [far0, ce0]; decide) (by decide) (by decide) (by decide)
  simpa [po] using this
theorem one_cs : Cs 3 [po] ([po].map fun q => (q.E, q.L)) := by
  refine ⟨by decide, by decide, by decide, by decide, by decide, fun k q h => ?_, fun k q h => ?_⟩
  · obtain rfl := po_only h
    decide
  · rcases k with _ | k <;> simp [po] at h
    subst h; decide
theorem one_best : best 3 (wt [po]) (zn ([po].map fun q => (q.E, q.L))) 1 = (100, 0) := by decide +kernel
def Ak1 : Ask := ⟨fun _ => 0, fun _ => (100, 0), fun B => (B, B)⟩
def R0 : Bx := ⟨0, 0, 0, 0, 0, 0⟩
theorem sb_r0 {B : Bx} (h : Sb R0 B) : B = R0 := by
  obtain ⟨a, b, c, d, e, f⟩ := B
  obtain ⟨h1, h2, h3, h4, h5, h6, h7, h8, h9⟩ := h
  simp only [R0] at *
  obtain rfl : a = 0 := by omega
  obtain rfl : b = 0 := by omega
  obtain rfl : c = 0 := by omega
  obtain rfl : d = 0 := by omega
  obtain rfl : e = 0 := by omega
  obtain rfl : f = 0 := by omega
  rfl
theorem in_r0 {p : P3} (h : inB R0 p) : p = (0, 0, 0) := by
  unfold inB R0 at h
  simp only at h
  obtain ⟨x, y, z⟩ := p
  simp only at h
  obtain rfl : x = 0 := by omega
  obtain rfl : y = 0 := by omega
  obtain rfl : z = 0 := by omega
  rfl
theorem wi0 : Geo.wiB 0 0 0 0 0 0 0 0 0 0 0 0 = true := by decide
theorem pr1 {w : World} {b1 b2 gp : Nat} (ht : OT b1 b2 w) (hp : PhR w gp [po]) : Pr w Ak1 R0 ⟨10, b1, 2, 2, b2, 2, 2, gp, 1, 1, 3⟩ where
  bound w' h' B hB := by
    obtain rfl := sb_r0 hB
    have := bound_any (one_pk b1 b2) ((one_pk b1 b2).stab _ _ ht h') (hp.below h') (n := 1) (c := 1) rfl (Nat.le_refl _) 0 0 0 0 0 0 (fun q => (q.E, q.L)) bv0 wi0 (one_zone b1 b2) one_cs
    rw [one_best] at this
    exact this
  at_ w' h' p hp' := by
    obtain rfl := in_r0 hp'
    have := at_any (one_pk b1 b2) ((one_pk b1 b2).stab _ _ ht h') (hp.below h') (n := 1) (c := 1) rfl (Nat.le_refl _) 0 0 0 (fun q => (q.E, q.L)) bv0 wi0 (one_zone b1 b2) one_cs
    rw [one_best] at this
    exact this
  vl w' h' := validate_any (one_pk b1 b2) ((one_pk b1 b2).stab _ _ ht h') (hp.below h') rfl (Nat.le_refl _)
  sp B hB h1 := by obtain rfl := sb_r0 hB; exact absurd h1 (by decide)
  good := ⟨⟨by decide, by decide, by decide, by decide, by decide, by decide, by decide, by decide, by decide⟩, fun B hB h1 => by obtain rfl := sb_r0 hB; exact absurd h1 (by decide)⟩
  bv B hB := by obtain rfl := sb_r0 hB; exact bv0
  f0 B hB := by show (0 : Int) ≤ 0 ∧ (0 : Int) ≤ _; decide
  g0 p hp' := by show (0 : Int) ≤ 0 ∧ (0 : Int) ≤ _; decide
  few := by decide
theorem fin1 : fin Ak1 R0 0 = ⟨[], 1, 1, true, 0, 0, 0, 100, 0⟩ := by kernel_rfl
theorem end1 : ended 0 (fin Ak1 R0 0) = true := by rw [fin1]; rfl
theorem inv1 : Inv Ak1 R0 (fin Ak1 R0 0) := by
  have G : Good Ak1 R0 := ⟨⟨by decide, by decide, by decide, by decide, by decide, by decide, by decide, by decide, by decide⟩, fun B hB h1 => by obtain rfl := sb_r0 hB; exact absurd h1 (by decide)⟩
  exact (run_inv G 0 3000 _ (start_inv G) (by decide +kernel)).1
end Loc
end Go.Proofs.YtldgihlhioeipaaGreat

/- The law's example. -/
set_option linter.unusedVariables false
set_option linter.unusedSimpArgs false
namespace Go.Proofs.YtldgihlhioeipaaGreat
open Go.RowKit
namespace Loc
open Mis
theorem row_one {P : Program} {fn : Func} {p : Tmp} {ty : TypeId} (h : fn.results = #[.cell p ty]) (tmps : Array Value) (w : World) (g : Nat) (t : TypeId) (cs : Array Value) (fr : Nat × Nat) (d : TypeDesc)
    (hp : tmps.getD p undef = .pointer (some ⟨g, 0, none⟩)) (hg : w.heap[g]? = some (.cells cs t fr))
    (hu : P.underlying ty = some d) (hd : (match d with | .struct _ | .array _ _ => true | _ => false) = true) (hi : (P.info? ty).map (·.size) = some cs.size) :
    (results fn tmps).run P w = .ok (.agg cs) w := by
  have hp' : tmps[p]?.getD undef = .pointer (some ⟨g, 0, none⟩) := by simpa using hp
  simp [results, h, hp', asAddr, run_loadVar_row w g t ty cs fr d hg hu hd hi]
def OneSaid (w : World) (e : Ending) (w' : World) : Prop := ∃ b1 b2 gp : Nat, e = .returned (.agg #[.int .i64 0, .int .i64 0, .int .i64 0, .int .i64 0, .int .i64 0, .int .i64 0, .int .i64 10, .slice (some ⟨b1, 0, none⟩) 2 2, .slice (some ⟨b2, 0, none⟩) 2 2, .slice (some ⟨gp, 0, none⟩) 1 1, .int .i64 3]) ∧ OT b1 b2 w' ∧ PhR w' gp [po] ∧ Below w.heap.size w w'
theorem phR_one {w : World} {g : Nat} (h : w.heap[g]? = some (.cells #[.int .i64 0, .int .i64 0, .int .i64 0, .int .i64 100, .int .i64 102, .int .i64 1] 54 (0, 0))) : PhR w g [po] :=
  ⟨(Array.getElem?_eq_some_iff.1 h).1, fun k p hp => by
    rcases k with _ | k
    · obtain rfl : p = po := by simpa using hp.symm
      exact ⟨cell_of_row w g 0 _ _ _ h, cell_of_row w g 1 _ _ _ h, cell_of_row w g 2 _ _ _ h, cell_of_row w g 3 _ _ _ h, cell_of_row w g 4 _ _ _ h, cell_of_row w g 5 _ _ _ h⟩
    · simp at hp⟩
set_option maxHeartbeats 8000000 in
set_option maxRecDepth 100000 in
theorem one_any (w : World) : Calls Tryz.prog 24 #[] w (OneSaid w) := by
  obtain ⟨w4, hw4⟩ : ∃ z, z = (((w.alloc (.cells #[.int .i64 0, .int .i64 0, .int .i64 0, .int .i64 0, .int .i64 0, .int .i64 0, .int .i64 0, .slice none 0 0, .slice none 0 0, .slice none 0 0, .int .i64 0] 33)).alloc (.cells #[.int .i64 0, .int .i64 5] 3)).alloc (.cells #[.int .i64 0, .int .i64 7] 3)).alloc (.cells #[.int .i64 0, .int .i64 0, .int .i64 0, .int .i64 100, .int .i64 102, .int .i64 1] 54) := ⟨_, rfl⟩
  have A1 : (w.alloc (.cells #[.int .i64 0, .int .i64 0, .int .i64 0, .int .i64 0, .int .i64 0, .int .i64 0, .int .i64 0, .slice none 0 0, .slice none 0 0, .slice none 0 0, .int .i64 0] 33)).heap.size = w.heap.size + 1 := by simp
  have A2 : ((w.alloc (.cells #[.int .i64 0, .int .i64 0, .int .i64 0, .int .i64 0, .int .i64 0, .int .i64 0, .int .i64 0, .slice none 0 0, .slice none 0 0, .slice none 0 0, .int .i64 0] 33)).alloc (.cells #[.int .i64 0, .int .i64 5] 3)).heap.size = w.heap.size + 2 := by simp
  have A3 : (((w.alloc (.cells #[.int .i64 0, .int .i64 0, .int .i64 0, .int .i64 0, .int .i64 0, .int .i64 0, .int .i64 0, .slice none 0 0, .slice none 0 0, .slice none 0 0, .int .i64 0] 33)).alloc (.cells #[.int .i64 0, .int .i64 5] 3)).alloc (.cells #[.int .i64 0, .int .i64 7] 3)).heap.size = w.heap.size + 3 := by simp
  have W0 := Lib.hid (show Below w.heap.size w w4 by rw [hw4]; exact (((new_block _).alloc (by simp) _).alloc (by first | (simp; done) | (simp; omega)) _).alloc (by first | (simp; done) | (simp; omega)) _)
  have P0 := Lib.hid (show w4.heap[w.heap.size]? = some (.cells #[.int .i64 0, .int .i64 0, .int .i64 0, .int .i64 0, .int .i64 0, .int .i64 0, .int .i64 0, .slice none 0 0, .slice none 0 0, .slice none 0 0, .int .i64 0] 33 (0, 0)) by rw [hw4]; exact ((new_block _).block _ (by first | (simp; done) | (simp; omega))).trans (((new_block _).block _ (by first | (simp; done) | (simp; omega))).trans (((new_block _).block _ (by simp)).trans (heap_alloc_new w _))))
  have Q1 := Lib.hid (show w4.heap[w.heap.size + 1]? = some (.cells #[.int .i64 0, .int .i64 5] 3 (0, 0)) by rw [hw4]; exact ((new_block _).block _ (by first | (simp; done) | (simp; omega))).trans (((new_block _).block _ (by simp)).trans (by rw [← A1]; exact heap_alloc_new _ _)))
  have Q2 := Lib.hid (show w4.heap[w.heap.size + 2]? = some (.cells #[.int .i64 0, .int .i64 7] 3 (0, 0)) by rw [hw4]; exact ((new_block _).block _ (by simp)).trans (by rw [← A2]; exact heap_alloc_new _ _))
  have Q3 := Lib.hid (show w4.heap[w.heap.size + 3]? = some (.cells #[.int .i64 0, .int .i64 0, .int .i64 0, .int .i64 100, .int .i64 102, .int .i64 1] 54 (0, 0)) by rw [hw4, ← A3]; exact heap_alloc_new _ _)
  have PW : Hid (∀ z, z = w4 → z.heap[w.heap.size]? = some (.cells #[.int .i64 0, .int .i64 0, .int .i64 0, .int .i64 0, .int .i64 0, .int .i64 0, .int .i64 0, .slice none 0 0, .slice none 0 0, .slice none 0 0, .int .i64 0] 33 (0, 0))) := Lib.hid fun z hz => by rw [hz]; exact P0.out
  go_enter Tryz.func24, Tryz.ntmps24
  go_wp2_with ((with_reducible refine Mid.str 33 (.tmp 0) (.tmp 6) w.heap.size 33 #[.int .i64 0, .int .i64 0, .int .i64 0, .int .i64 0, .int .i64 0, .int .i64 0, .int .i64 0, .slice none 0 0, .slice none 0 0, .slice none 0 0, .int .i64 0] #[.int .i64 0, .int .i64 0, .int .i64 0, .int .i64 0, .int .i64 0, .int .i64 0, .int .i64 10, .slice (some ⟨w.heap.size + 1, 0, none⟩) 2 2, .slice (some ⟨w.heap.size + 2, 0, none⟩) 2 2, .slice (some ⟨w.heap.size + 3, 0, none⟩) 1 1, .int .i64 3] (PW.out _ hw4.symm) ?_ ?_ ?_ ?_ ?_ ?_ ?_ ?_); (· rfl); (· rfl); (· first | rfl | simp [Act.eval]); (· first | rfl | simp [Act.eval]); (· kernel_rfl); (· rfl); (· simp [Value.oneCell']))
  try simp only [Act.put]
  rw [← hw4]
  clear PW A1 A2 A3 hw4
  have ZF : (w4.setRow w.heap.size #[.int .i64 0, .int .i64 0, .int .i64 0, .int .i64 0, .int .i64 0, .int .i64 0, .int .i64 10, .slice (some ⟨w.heap.size + 1, 0, none⟩) 2 2, .slice (some ⟨w.heap.size + 2, 0, none⟩) 2 2, .slice (some ⟨w.heap.size + 3, 0, none⟩) 1 1, .int .i64 3]).heap[w.heap.size]? = some (.cells #[.int .i64 0, .int .i64 0, .int .i64 0, .int .i64 0, .int .i64 0, .int .i64 0, .int .i64 10, .slice (some ⟨w.heap.size + 1, 0, none⟩) 2 2, .slice (some ⟨w.heap.size + 2, 0, none⟩) 2 2, .slice (some ⟨w.heap.size + 3, 0, none⟩) 1 1, .int .i64 3] 33 (0, 0)) := setRow_heap _ _ _ _ _ _ P0.out
  have T1 : (w4.setRow w.heap.size #[.int .i64 0, .int .i64 0, .int .i64 0, .int .i64 0, .int .i64 0, .int .i64 0, .int .i64 10, .slice (some ⟨w.heap.size + 1, 0, none⟩) 2 2, .slice (some ⟨w.heap.size + 2, 0, none⟩) 2 2, .slice (some ⟨w.heap.size + 3, 0, none⟩) 1 1, .int .i64 3]).heap[w.heap.size + 1]? = some (.cells #[.int .i64 0, .int .i64 5] 3 (0, 0)) := (setRow_other _ _ _ _ (by omega)).trans Q1.out
  have T2 : (w4.setRow w.heap.size #[.int .i64 0, .int .i64 0, .int .i64 0, .int .i64 0, .int .i64 0, .int .i64 0, .int .i64 10, .slice (some ⟨w.heap.size + 1, 0, none⟩) 2 2, .slice (some ⟨w.heap.size + 2, 0, none⟩) 2 2, .slice (some ⟨w.heap.size + 3, 0, none⟩) 1 1, .int .i64 3]).heap[w.heap.size + 2]? = some (.cells #[.int .i64 0, .int .i64 7] 3 (0, 0)) := (setRow_other _ _ _ _ (by omega)).trans Q2.out
  have T3 : (w4.setRow w.heap.size #[.int .i64 0, .int .i64 0, .int .i64 0, .int .i64 0, .int .i64 0, .int .i64 0, .int .i64 10, .slice (some ⟨w.heap.size + 1, 0, none⟩) 2 2, .slice (some ⟨w.heap.size + 2, 0, none⟩) 2 2, .slice (some ⟨w.heap.size + 3, 0, none⟩) 1 1, .int .i64 3]).heap[w.heap.size + 3]? = some (.cells #[.int .i64 0, .int .i64 0, .int .i64 0, .int .i64 100, .int .i64 102, .int .i64 1] 54 (0, 0)) := (setRow_other _ _ _ _ (by omega)).trans Q3.out
  exact bodyPost_ret (row_one rfl _ _ w.heap.size _ _ _ _ rfl ZF rfl (by rfl) rfl) rfl ⟨_, _, _, rfl, one_tv T1 T2, phR_one T3, Mid.below_row W0.out _ _ (Nat.le_refl _)⟩
set_option maxHeartbeats 8000000 in
set_option maxRecDepth 100000 in
theorem awake_any (w : World) : Calls Tryz.prog 9 #[] w fun e w' => e = .returned (.bool true) ∧ Below w.heap.size w w' := by
  have LO := Lib.hid fun (w' : World) (b1 b2 gp : Nat) (ht : OT b1 b2 w') (hp : PhR w' gp [po]) => locate_any (pr1 ht hp) 0 (by decide) (by decide) end1 (by rw [fin1]) inv1
  have BO := Lib.hid fun (w' : World) (b1 b2 gp : Nat) (ht : OT b1 b2 w') (hp : PhR w' gp [po]) => boxes_any (pr1 ht hp) 0 (by decide) (by decide) end1
  rw [fin1] at LO BO
  go_enter Tryz.func9, Tryz.ntmps9
  go_wp2_with fail
  refine (one_any _).mono ?_
  rintro e w2 ⟨b1, b2, gp, rfl, ht, hp, bb⟩
  have B2 := Lib.hid bb
  have L2 := Lib.hid (LO.out w2 b1 b2 gp ht hp)
  clear ht hp bb LO
  go_wp2_with fail
  refine L2.out.mono ?_
  rintro e w3 ⟨rfl, b3⟩
  have B3 := Lib.hid (Buf.then_ B2.out b3)
  clear b3 L2 B2
  go_upto_region 2 with ((with_reducible refine Mid.str 36 (.tmp 1) (.tmp 8) w3.heap.size 36 #[.int .i64 0, .int .i64 0, .int .i64 0, .int .i64 0, .int .i64 0, .int .i64 0, .int .i64 0, .int .i64 0, .int .i64 0, .int .i64 0, .int .i64 0, .int .i64 0] #[.int .i64 0, .int .i64 0, .int .i64 0, .int .i64 100, .int .i64 0, .int .i64 0, .int .i64 0, .int .i64 0, .int .i64 0, .int .i64 0, .int .i64 0, .int .i64 0] (heap_alloc_new w3 _) ?_ ?_ ?_ ?_ ?_ ?_ ?_ ?_); (· rfl); (· rfl); (· first | rfl | simp [Act.eval]); (· first | rfl | simp [Act.eval]); (· kernel_rfl); (· rfl); (· simp [Value.oneCell']))
  try simp only [Act.put]
  have N4 : Below w3.heap.size w3 ((w3.alloc (.cells #[.int .i64 0, .int .i64 0, .int .i64 0, .int .i64 0, .int .i64 0, .int .i64 0, .int .i64 0, .int .i64 0, .int .i64 0, .int .i64 0, .int .i64 0, .int .i64 0] 36)).setRow w3.heap.size #[.int .i64 0, .int .i64 0, .int .i64 0, .int .i64 100, .int .i64 0, .int .i64 0, .int .i64 0, .int .i64 0, .int .i64 0, .int .i64 0, .int .i64 0, .int .i64 0]) := Mid.below_row (Mis.new_block _) _ _ (Nat.le_refl _)
  have K4 := Lib.hid (show ((w3.alloc (.cells #[.int .i64 0, .int .i64 0, .int .i64 0, .int .i64 0, .int .i64 0, .int .i64 0, .int .i64 0, .int .i64 0, .int .i64 0, .int .i64 0, .int .i64 0, .int .i64 0] 36)).setRow w3.heap.size #[.int .i64 0, .int .i64 0, .int .i64 0, .int .i64 100, .int .i64 0, .int .i64 0, .int .i64 0, .int .i64 0, .int .i64 0, .int .i64 0, .int .i64 0, .int .i64 0]).heap[w3.heap.size]? = some (.cells #[.int .i64 0, .int .i64 0, .int .i64 0, .int .i64 100, .int .i64 0, .int .i64 0, .int .i64 0, .int .i64 0, .int .i64 0, .int .i64 0, .int .i64 0, .int .i64 0] 36 (0, 0)) from setRow_heap _ _ _ _ _ _ (heap_alloc_new w3 _))
  obtain ⟨w4, hw4⟩ : ∃ z, z = (w3.alloc (.cells #[.int .i64 0, .int .i64 0, .int .i64 0, .int .i64 0, .int .i64 0, .int .i64 0, .int .i64 0, .int .i64 0, .int .i64 0, .int .i64 0, .int .i64 0, .int .i64 0] 36)).setRow w3.heap.size #[.int .i64 0, .int .i64 0, .int .i64 0, .int .i64 100, .int .i64 0, .int .i64 0, .int .i64 0, .int .i64 0, .int .i64 0, .int .i64 0, .int .i64 0, .int .i64 0] := ⟨_, rfl⟩
  rw [← hw4] at N4 K4 ⊢
  obtain ⟨p1, hp1⟩ : ∃ z, z = w3.heap.size := ⟨_, rfl⟩
  rw [← hp1] at K4 ⊢
  have B4 := Lib.hid (Buf.then_ B3.out N4)
  clear hw4 hp1 N4 B3
  go_wp2_with fail
  refine (one_any _).mono ?_
  rintro e w5 ⟨c1, c2, cg, rfl, ht, hp, bb⟩
  have K5 := Lib.hid (Mis.hb bb K4.out)
  have B5 := Lib.hid (Buf.then_ B4.out bb)
  have L5 := Lib.hid (BO.out w5 c1 c2 cg ht hp)
  clear ht hp bb BO K4 B4
  go_wp2_with fail
  refine L5.out.mono ?_
  rintro e w6 ⟨rfl, b6⟩
  have K6 := Lib.hid (Mis.hb b6 K5.out)
  have B6 := Lib.hid (Buf.then_ B5.out b6)
  clear b6 L5 K5 B5
  have E12 : ∀ w', Sem.run Tryz.prog (binOp .eql 36 (.agg #[.int .i64 0, .int .i64 0, .int .i64 0, .int .i64 100, .int .i64 0, .int .i64 0, .int .i64 0, .int .i64 0, .int .i64 0, .int .i64 0, .int .i64 0, .int .i64 0]) (.agg #[.int .i64 0, .int .i64 0, .int .i64 0, .int .i64 100, .int .i64 0, .int .i64 0, .int .i64 0, .int .i64 0, .int .i64 0, .int .i64 0, .int .i64 0, .int .i64 0])) w' = .ok (.bool true) w' := fun w' => by kernel_rfl
  go_wp2_with ((with_reducible refine Mid.ldrg 36 (.tmp 1) p1 36 #[.int .i64 0, .int .i64 0, .int .i64 0, .int .i64 100, .int .i64 0, .int .i64 0, .int .i64 0, .int .i64 0, .int .i64 0, .int .i64 0, .int .i64 0, .int .i64 0] K6.out ?_ ?_ ?_ ?_ ?_ ?_); (· rfl); (· first | rfl | simp [Region.wanted, yielded]); (· first | rfl | simp [Act.eval]); (· exact ⟨_, rfl, rfl⟩); (· kernel_rfl))
  go_ret
  exact ⟨rfl, B6.out⟩
end Loc
end Go.Proofs.YtldgihlhioeipaaGreat
