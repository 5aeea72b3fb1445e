/- PrA: texts joined. -/
import Derived.Test.YtldgihlhioeipaaLocMF
import Derived.Test.YtldgihlhioeipaaLlGQ
import Derived.Test.YtldgihlhioeipaaRefA
import Derived.Test.YtldgihlhioeipaaMisC
import Derived.OneCell
import Derived.Laws.EntriesVeiled
/- Certificates: the mathematics. -/
set_option linter.unusedVariables false
namespace Go.Proofs.Ytldgihlhioeipaa
namespace Loc
namespace Prf

/-- What Make writes. -/
def cert (C : Ask) (pv : Bx → Bool) : Nat → Bx → Option (List Int)
  | 0, _ => none
  | f + 1, B => if pv B = true then some [0] else if one B = true then none else
    match cert C pv f (C.S B).1, cert C pv f (C.S B).2 with
    | some x, some y => some (1 :: (x ++ y))
    | _, _ => none
/-- What Check reads. -/
def rd (C : Ask) (pv : Bx → Bool) : Nat → Bx → List Int → Option (List Int)
  | 0, _, _ => none
  | _ + 1, _, [] => none
  | f + 1, B, v :: l => if v = 0 then (if pv B = true then some l else none) else if v = 1 then (if one B = true then none else (rd C pv f (C.S B).1 l).bind (rd C pv f (C.S B).2)) else none
theorem halves {C : Ask} {R : Bx} (h : Good C R) {B : Bx} (hB : Sb R B) (h1 : one B = false) {f : Nat} (hn : np B ≤ ((f + 1 : Nat) : Int)) :
    Sb R (C.S B).1 ∧ Sb R (C.S B).2 ∧ np (C.S B).1 ≤ (f : Int) ∧ np (C.S B).2 ≤ (f : Int) ∧ np (C.S B).1 + np (C.S B).2 = np B := by
  obtain ⟨s1, s2, s3, _⟩ := h.sp B hB h1
  have t1 := hB.trans s1
  have t2 := hB.trans s2
  have p1 := np_pos t1
  have p2 := np_pos t2
  exact ⟨t1, t2, by omega, by omega, s3⟩
theorem rd_cert {C : Ask} {R : Bx} (h : Good C R) {pv pv' : Bx → Bool} (hp : ∀ B, Sb R B → pv B = true → pv' B = true) : ∀ (f : Nat) (B : Bx), Sb R B → np B ≤ (f : Int) → ∀ c, cert C pv f B = some c → ∀ t, rd C pv' f B (c ++ t) = some t
  | 0, B, hB, hn => by have := np_pos hB; omega
  | f + 1, B, hB, hn => by
    intro c hc t
    unfold cert at hc
    by_cases hv : pv B = true
    · rw [if_pos hv] at hc
      cases hc
      show (if (0 : Int) = 0 then (if pv' B = true then some t else none) else _) = some t
      rw [if_pos rfl, if_pos (hp B hB hv)]
    · rw [if_neg hv] at hc
      by_cases h1 : one B = true
      · rw [if_pos h1] at hc; cases hc
      · rw [if_neg h1] at hc
        have h1' : one B = false := by simpa using h1
        obtain ⟨t1, t2, n1, n2, n3⟩ := halves h hB h1' hn
        cases e1 : cert C pv f (C.S B).1 with
        | none => rw [e1] at hc; cases hc
        | some x =>
          cases e2 : cert C pv f (C.S B).2 with
          | none => rw [e1, e2] at hc; cases hc
          | some y =>
            rw [e1, e2] at hc
            cases hc
            show (if (1 : Int) = 0 then _ else if (1 : Int) = 1 then (if one B = true then none else (rd C pv' f (C.S B).1 ((x ++ y) ++ t)).bind (rd C pv' f (C.S B).2)) else none) = some t
            rw [if_neg (by decide), if_pos rfl, if_neg h1, List.append_assoc, rd_cert h hp f _ t1 n1 x e1, Option.bind_some, rd_cert h hp f _ t2 n2 y e2]
end Prf
end Loc
end Go.Proofs.Ytldgihlhioeipaa

/- Which boxes a location needs no splitting of, at any location; what an accepted certificate says. -/
set_option linter.unusedVariables false
namespace Go.Proofs.Ytldgihlhioeipaa
namespace Loc
namespace Prf
def wib (B A : Bx) : Bool := Geo.wiV B.a B.b B.c B.d B.e B.f A.a A.b A.c A.d A.e A.f
def prv (C : Ask) (m lw : Int) (A : Bx) (tol : Int) (B : Bx) : Bool := decide (m - C.F B ≤ tol) && decide (lw ≤ C.F B) && (decide (m ≤ C.F B) || wib B A)
theorem rd_leaf {C : Ask} {R : Bx} (h : Good C R) {pv : Bx → Bool} : ∀ (f : Nat) (B : Bx) (l t : List Int), Sb R B → rd C pv f B l = some t → ∀ p, inB B p → ∃ D, Sb R D ∧ pv D = true ∧ inB D p
  | 0, B, l, t, _, h1 => by cases h1
  | f + 1, B, [], t, _, h1 => by cases h1
  | f + 1, B, v :: l, t, hB, h1 => by
    intro p hp
    have h' : (if v = 0 then (if pv B = true then some l else none) else if v = 1 then (if one B = true then none else (rd C pv f (C.S B).1 l).bind (rd C pv f (C.S B).2)) else none) = some t := h1
    by_cases h0 : v = 0
    · rw [if_pos h0] at h'
      by_cases hv : pv B = true
      · exact ⟨B, hB, hv, hp⟩
      · rw [if_neg hv] at h'; cases h'
    · rw [if_neg h0] at h'
      by_cases h2 : v = 1
      · rw [if_pos h2] at h'
        by_cases ho : one B = true
        · rw [if_pos ho] at h'; cases h'
        · rw [if_neg ho] at h'
          have ho' : one B = false := by simpa using ho
          obtain ⟨s1, s2, _, s4⟩ := h.sp B hB ho'
          cases e1 : rd C pv f (C.S B).1 l with
          | none => rw [e1] at h'; cases h'
          | some u =>
            rw [e1, Option.bind_some] at h'
            rcases s4 p hp with q | q
            · exact rd_leaf h f _ _ _ (hB.trans s1) e1 p q
            · exact rd_leaf h f _ _ _ (hB.trans s2) h' p q
      · rw [if_neg h2] at h'; cases h'
/-- What an accepted certificate says of each point. -/
theorem rd_sound {C : Ask} {R : Bx} (h : Good C R) (hm : ∀ B p, Sb R B → inB B p → C.F B ≤ (C.G p).2) {m lw tol : Int} {A : Bx} {f : Nat} {l : List Int} (hr : rd C (prv C m lw A tol) f R l = some []) :
    ∀ p, inB R p → lw ≤ (C.G p).2 ∧ m - tol ≤ (C.G p).2 ∧ ((C.G p).2 < m → Geo.coV A.a A.b A.c A.d A.e A.f p.1 p.2.1 p.2.2 = true) := by
  intro p hp
  obtain ⟨D, hD, hv, hq⟩ := rd_leaf h f R l [] h.rv hr p hp
  have hb := hm D p hD hq
  unfold prv at hv
  simp only [Bool.and_eq_true, Bool.or_eq_true, decide_eq_true_eq] at hv
  obtain ⟨⟨h1, h2⟩, h3⟩ := hv
  refine ⟨by omega, by omega, fun h4 => ?_⟩
  rcases h3 with h3 | h3
  · omega
  · unfold wib Geo.wiV Geo.wiB at h3
    simp only [Bool.and_eq_true, decide_eq_true_eq] at h3
    obtain ⟨_, hA, hw⟩ := h3
    unfold Geo.coV
    unfold inB at hq
    rw [hA, Bool.true_and]
    exact decide_eq_true (by omega)
theorem cert_len {C : Ask} {R : Bx} (h : Good C R) {pv : Bx → Bool} : ∀ (f : Nat) (B : Bx), Sb R B → np B ≤ (f : Int) → ∀ c, cert C pv f B = some c → (c.length : Int) ≤ 2 * np B - 1
  | 0, B, hB, hn => by have := np_pos hB; omega
  | f + 1, B, hB, hn => by
    intro c hc
    have p := np_pos hB
    unfold cert at hc
    by_cases hv : pv B = true
    · rw [if_pos hv] at hc; cases hc; simp; omega
    · rw [if_neg hv] at hc
      by_cases h1 : one B = true
      · rw [if_pos h1] at hc; cases hc
      · rw [if_neg h1] at hc
        have h1' : one B = false := by simpa using h1
        obtain ⟨t1, t2, n1, n2, n3⟩ := halves h hB h1' hn
        cases e1 : cert C pv f (C.S B).1 with
        | none => rw [e1] at hc; cases hc
        | some x =>
          cases e2 : cert C pv f (C.S B).2 with
          | none => rw [e1, e2] at hc; cases hc
          | some y =>
            rw [e1, e2] at hc
            cases hc
            have := cert_len h f _ t1 n1 x e1
            have := cert_len h f _ t2 n2 y e2
            simp only [List.length_cons, List.length_append]; push_cast; omega
end Prf
end Loc
end Go.Proofs.Ytldgihlhioeipaa

/- misfit.At at a point beside the region. -/
set_option linter.unusedVariables false
set_option linter.unusedSimpArgs false
namespace Go.Proofs.Ytldgihlhioeipaa
open Go.RowKit Qt
namespace Loc
namespace Prf
set_option maxHeartbeats 8000000 in
set_option maxRecDepth 100000 in
theorem zones_out {A w : World} {Ak : Ask} {R : Bx} {q : Pq} (P : Pr A Ak R q) (hb : Below A.heap.size A w) (B : Bx) (hB : Geo.wiV B.a B.b B.c B.d B.e B.f R.a R.b R.c R.d R.e R.f = false) :
    Calls Try.prog 33 #[.agg (prb R q).toArray, .agg (box6 B).toArray] w fun e w' => e = .returned (.tuple #[.slice none 0 0, .int .i64 20]) ∧ Below w.heap.size w w' := by
  obtain ⟨w1, hw1⟩ : ∃ z, z = (w.alloc (.cells (prb R q).toArray 36)).alloc (.cells (box6 B).toArray 26) := ⟨_, rfl⟩
  have B1 := Lib.hid (show Below w.heap.size w w1 by rw [hw1]; exact Buf.then_ (Mis.new_block _) (Mis.new_block _))
  have K2 := Lib.hid (show w1.heap[w.heap.size]? = some (.cells (prb R q).toArray 36 (0, 0)) by rw [hw1]; exact Geo.blk_alloc (Geo.blk_new w _) _)
  have K3 := Lib.hid (show w1.heap[w.heap.size + 1]? = some (.cells (box6 B).toArray 26 (0, 0)) by rw [hw1]; exact Geo.blk_new1 w _ _)
  have VL := Lib.hid (P.vl w1 (Buf.then_ hb B1.out))
  have WI := Lib.hid (Geo.within_all B.a B.b B.c B.d B.e B.f R.a R.b R.c R.d R.e R.f)
  rw [hB] at WI
  obtain ⟨p2, hp2⟩ : ∃ z, z = w.heap.size := ⟨_, rfl⟩
  obtain ⟨p3, hp3⟩ : ∃ z, z = w.heap.size + 1 := ⟨_, rfl⟩
  rw [← hp2] at K2
  rw [← hp3] at K3
  clear P hb
  go_enter Try.func33, Try.ntmps33
  go_upto_region 1 with fail
  rw [← hw1, ← hp3, ← hp2]
  clear hw1 hp2 hp3
  go_upto_region 4 with (first | ((with_reducible refine Mid.ldr 36 (.tmp 2) p2 36 (prb R q).toArray K2.out ?_ ?_ ?_ ?_ ?_ ?_); (· rfl); (· rfl); (· first | rfl | simp [Act.eval]); (· exact ⟨_, rfl, rfl⟩); (· kernel_rfl)) | (go_at_call 49; refine VL.out.mono ?_; rintro e w2 ⟨rfl, b2⟩; have B2 := Lib.hid (Buf.then_ B1.out b2); have K2b := Lib.hid (Mis.hb b2 K2.out); have K3b := Lib.hid (Mis.hb b2 K3.out); clear b2))
  have RX := Lib.hid (Mid.range K2b.out 0 (box6 R) (by rfl))
  go_wp2_with (first | ((with_reducible refine Mid.ldr 26 (.tmp 3) p3 26 (box6 B).toArray K3b.out ?_ ?_ ?_ ?_ ?_ ?_); (· rfl); (· rfl); (· first | rfl | simp [Act.eval]); (· exact ⟨_, rfl, rfl⟩); (· kernel_rfl)) | ((with_reducible refine Mid.ldm 26 (.tmp 13) p2 0 (box6 R) RX.out ?_ ?_ ?_ ?_ ?_ ?_); (· rfl); (· rfl); (· first | rfl | simp [Act.eval]); (· exact ⟨_, rfl, rfl⟩); (· kernel_rfl)) | (go_at_call 51; refine (WI.out _).mono ?_; rintro e w3 ⟨rfl, b3⟩))
  go_ret2
  exact ⟨rfl, Buf.then_ B2.out b3⟩
set_option maxHeartbeats 8000000 in
set_option maxRecDepth 100000 in
theorem at_out {A w : World} {Ak : Ask} {R : Bx} {q : Pq} (P : Pr A Ak R q) (hb : Below A.heap.size A w) (x y z : Int) (hB : Geo.wiV x y z x y z R.a R.b R.c R.d R.e R.f = false) :
    Calls Try.prog 13 #[.agg (prb R q).toArray, .agg #[.int .i64 x, .int .i64 y, .int .i64 z]] w fun e w' => e = .returned (.tuple #[.int .i64 0, .int .i64 0, .int .i64 20]) ∧ Below w.heap.size w w' := by
  obtain ⟨w1, hw1⟩ : ∃ zz, zz = (w.alloc (.cells (prb R q).toArray 36)).alloc (.cells #[.int .i64 x, .int .i64 y, .int .i64 z] 24) := ⟨_, rfl⟩
  have B1 := Lib.hid (show Below w.heap.size w w1 by rw [hw1]; exact Buf.then_ (Mis.new_block _) (Mis.new_block _))
  have K2 := Lib.hid (show w1.heap[w.heap.size]? = some (.cells (prb R q).toArray 36 (0, 0)) by rw [hw1]; exact Geo.blk_alloc (Geo.blk_new w _) _)
  have K3 := Lib.hid (show w1.heap[w.heap.size + 1]? = some (.cells #[.int .i64 x, .int .i64 y, .int .i64 z] 24 (0, 0)) by rw [hw1]; exact Geo.blk_new1 w _ _)
  have ZO : Hid (∀ w', Below w1.heap.size w1 w' → Calls Try.prog 33 #[.agg (prb R q).toArray, .agg #[.int .i64 x, .int .i64 y, .int .i64 z, .int .i64 x, .int .i64 y, .int .i64 z]] w' fun e w'' => e = .returned (.tuple #[.slice none 0 0, .int .i64 20]) ∧ Below w'.heap.size w' w'') := Lib.hid fun w' h' => zones_out (w := w') P (Buf.then_ (Buf.then_ hb B1.out) h') ⟨x, y, z, x, y, z⟩ hB
  have PO := Lib.hid (Mis.point_any x y z)
  obtain ⟨p2, hp2⟩ : ∃ zz, zz = w.heap.size := ⟨_, rfl⟩
  obtain ⟨p3, hp3⟩ : ∃ zz, zz = w.heap.size + 1 := ⟨_, rfl⟩
  rw [← hp2] at K2
  rw [← hp3] at K3
  clear P hb
  go_enter Try.func13, Try.ntmps13
  go_upto_region 1 with fail
  rw [← hw1, ← hp3, ← hp2]
  clear hw1 hp2 hp3
  have R2 : Hid (∀ w', Below w1.heap.size w1 w' → w'.heap[p2]? = some (.cells (prb R q).toArray 36 (0, 0))) := Lib.hid fun w' h' => Mis.hb h' K2.out
  have R3 : Hid (∀ w', Below w1.heap.size w1 w' → w'.heap[p3]? = some (.cells #[.int .i64 x, .int .i64 y, .int .i64 z] 24 (0, 0))) := Lib.hid fun w' h' => Mis.hb h' K3.out
  refine Buf.region_calm w1 (by kernel_rfl) (by kernel_rfl) (Below.refl _ _) ?_
  repeat (first
    | (go_big_quiet_want; refine quiet_row 36 (.tmp 2) rfl p2 rfl 36 (prb R q).toArray (0, 0) _ (fun _ hC => R2.out _ hC) rfl rfl rfl ?_; go_big_quiet_on; try simp only [Act.put, List.setIfInBounds_toArray, List.set_cons_zero, List.set_cons_succ])
    | (go_big_quiet_want; refine quiet_row 24 (.tmp 3) rfl p3 rfl 24 #[.int .i64 x, .int .i64 y, .int .i64 z] (0, 0) _ (fun _ hC => R3.out _ hC) rfl rfl rfl ?_; go_big_quiet_on; try simp only [Act.put, List.setIfInBounds_toArray, List.set_cons_zero, List.set_cons_succ])
    | go_big_quiet_step ((intro hC; first
       | (go_at_call 34; (with_reducible exact Buf.calm hC (PO.out _)))
       | (go_at_call 33; (with_reducible exact Buf.calm hC (ZO.out _ hC)))
       | rfl)))
  refine wpQuiet_nil ?_
  intro w5 b5
  go_wp2_with fail
  go_ret3
  exact ⟨rfl, Buf.then_ B1.out b5⟩
end Prf
end Loc
end Go.Proofs.Ytldgihlhioeipaa

/- proof.proves, proof.check. -/
set_option linter.unusedVariables false
set_option linter.unusedSimpArgs false
namespace Go.Proofs.Ytldgihlhioeipaa
open Go.RowKit
namespace Loc
namespace Prf
theorem ldmg {P : Program} {ops : Array Oper} {rest : List Oper} {op : Oper} {a : Act} {w : World} {Q : Exit → Act → World → Prop} (ty : TypeId) (x : Operand) (b o : Nat) (cs : List Value) (hc : w.rangeAt b o cs)
    (ho : op.op = .load ty x) (hw : Region.wanted op (yielded ops a.tmps) = true) (hx : a.eval x = .pointer (some ⟨b, o, none⟩)) (hd : ∃ d, P.underlying ty = some d ∧ d.isRow = true) (hi : (P.info? ty).map (·.size) = some cs.length)
    (h : wpList P ops Q rest (a.put op.dst (.agg cs.toArray)) w) : wpList P ops Q (op :: rest) a w := by
  obtain ⟨d, h1, h2⟩ := hd
  exact Mid.wpList_on hw fun K hK => wp_load_mid ty x ho b o hx cs d hc h1 h2 hi (hK _ _ h)
/-- What is asked of a location. -/
structure Lc (Ak : Ask) (R : Bx) (FN : St) (lw : Int) (AA : Bx) : Prop where
  inR : inB R (FN.x, FN.y, FN.z)
  at_ : Ak.G (FN.x, FN.y, FN.z) = (FN.t, FN.m)
  m0 : 0 ≤ FN.m
  m9 : FN.m ≤ 1125899906842624
theorem box2 {w : World} {o1 o2 o3 : Obj} : Below w.heap.size w (((w.alloc o1).alloc o2).alloc o3) ∧ (((w.alloc o1).alloc o2).alloc o3).heap[w.heap.size]? = some o1 ∧ (((w.alloc o1).alloc o2).alloc o3).heap[w.heap.size + 1]? = some o2 ∧ (((w.alloc o1).alloc o2).alloc o3).heap[w.heap.size + 1 + 1]? = some o3 := by
  have e1 : (w.alloc o1).heap.size = w.heap.size + 1 := by simp
  have e2 : ((w.alloc o1).alloc o2).heap.size = w.heap.size + 2 := by simp
  refine ⟨((Mis.new_block _).alloc (by simp) _).alloc (by simp; omega) _, ?_, ?_, ?_⟩
  · exact Mis.hb (Mis.new_block _) (Mis.hb (Mis.new_block _) (heap_alloc_new w o1))
  · rw [← e1]; exact Mis.hb (Mis.new_block _) (heap_alloc_new _ o2)
  · show _[w.heap.size + 2]? = _; rw [← e2]; exact heap_alloc_new _ o3
section
variable {A w : World} {Ak : Ask} {R : Bx} {q : Pq} {FN : St} {lw : Int} {AA : Bx} {tol : Int}
set_option maxHeartbeats 16000000 in
set_option maxRecDepth 100000 in
theorem proves_any (P : Pr A Ak R q) (hb : Below A.heap.size A w) (L : Lc Ak R FN lw AA) (t0 : 0 ≤ tol) (t9 : tol ≤ 1000000) {B : Bx} (hB : Sb R B) :
    Calls Try.prog 30 #[.agg (prb R q).toArray, .agg (lrow FN lw AA).toArray, .int .i64 tol, .agg (box6 B).toArray] w fun e w' => e = .returned (.bool (prv Ak FN.m lw AA tol B)) ∧ Below w.heap.size w w' := by
  have bvB := Lib.hid (P.bv B hB)
  obtain ⟨b0, b9⟩ := P.f0 B hB
  have m0 := L.m0
  have m9 := L.m9
  obtain ⟨r, hr⟩ : ∃ r, r = prv Ak FN.m lw AA tol B := ⟨_, rfl⟩
  rw [← hr]
  unfold prv at hr
  have WI := Lib.hid fun w' => Geo.within_all B.a B.b B.c B.d B.e B.f AA.a AA.b AA.c AA.d AA.e AA.f w'
  obtain ⟨wv, hwv⟩ : ∃ z, z = wib B AA := ⟨_, rfl⟩
  rw [show Geo.wiV B.a B.b B.c B.d B.e B.f AA.a AA.b AA.c AA.d AA.e AA.f = wv from hwv.symm] at WI
  rw [← hwv] at hr
  obtain ⟨B1, H1, H2, H3⟩ := box2 (w := w) (o1 := .cells (prb R q).toArray 36) (o2 := .cells (lrow FN lw AA).toArray 28) (o3 := .cells (box6 B).toArray 26)
  obtain ⟨w1, hw1⟩ : ∃ z, z = ((w.alloc (.cells (prb R q).toArray 36)).alloc (.cells (lrow FN lw AA).toArray 28)).alloc (.cells (box6 B).toArray 26) := ⟨_, rfl⟩
  rw [← hw1] at B1 H1 H2 H3
  have BC := Lib.hid fun (w' : World) (h' : Below w1.heap.size w1 w') => P.bound w' (Buf.then_ (Buf.then_ hb B1) h') B hB
  obtain ⟨bd, hbd⟩ : ∃ z, z = Ak.F B := ⟨_, rfl⟩
  rw [← hbd] at BC hr b0 b9
  replace H1 := Lib.hid H1
  replace H2 := Lib.hid H2
  replace H3 := Lib.hid H3
  replace B1 := Lib.hid B1
  replace hr := Lib.hid hr
  replace hwv := Lib.hid hwv
  replace hbd := Lib.hid hbd
  clear hb P bvB L
  go_enter Try.func30, Try.ntmps30
  go_upto_region 1 with fail
  rw [← hw1]
  obtain ⟨p4, hp4⟩ : ∃ z, z = w.heap.size := ⟨_, rfl⟩
  obtain ⟨p5, hp5⟩ : ∃ z, z = w.heap.size + 1 := ⟨_, rfl⟩
  obtain ⟨p7, hp7⟩ : ∃ z, z = w.heap.size + 1 + 1 := ⟨_, rfl⟩
  rw [← hp4] at H1
  rw [← hp5] at H2
  rw [← hp7] at H3
  try rw [← hp7]
  try rw [← hp5]
  try rw [← hp4]
  clear hw1 hp4 hp5 hp7
  go_upto_region 2 with (first | ((with_reducible refine Mid.ldr 36 (.tmp 4) p4 36 (prb R q).toArray H1.out ?_ ?_ ?_ ?_ ?_ ?_); (· rfl); (· rfl); (· first | rfl | simp [Act.eval]); (· exact ⟨_, rfl, rfl⟩); (· kernel_rfl)) | ((with_reducible refine Mid.ldr 26 (.tmp 7) p7 26 (box6 B).toArray H3.out ?_ ?_ ?_ ?_ ?_ ?_); (· rfl); (· rfl); (· first | rfl | simp [Act.eval]); (· exact ⟨_, rfl, rfl⟩); (· kernel_rfl)) | (go_at_call 50; refine (BC.out _ (Below.refl _ _)).mono ?_; rintro e w2 ⟨rfl, b2⟩))
  have K5 := Lib.hid (Mis.hb b2 H2.out)
  have K7 := Lib.hid (Mis.hb b2 H3.out)
  have B2 := Lib.hid (Buf.then_ B1.out b2)
  clear H1 H2 H3 B1 b2 BC
  obtain ⟨c3, c4, c5⟩ : w2.cell? ⟨p5, 3, none⟩ = some (.int .i64 FN.t) ∧ w2.cell? ⟨p5, 4, none⟩ = some (.int .i64 FN.m) ∧ w2.cell? ⟨p5, 5, none⟩ = some (.int .i64 lw) := ⟨cell_of_row w2 p5 3 _ _ _ K5.out, cell_of_row w2 p5 4 _ _ _ K5.out, cell_of_row w2 p5 5 _ _ _ K5.out⟩
  have e0 : IntKind.i64.wrap (FN.m - bd) = FN.m - bd := IntWalk.i64_in _ (by omega)
  by_cases h1 : FN.m - bd > tol
  · have hrf : r = false := by rw [hr.out, decide_eq_false (by omega)]; rfl
    subst hrf
    have e1 : decide (FN.m - bd > tol) = true := decide_eq_true h1
    go_wp2_with fail
    go_ret
    exact ⟨rfl, B2.out⟩
  · have e1 : decide (FN.m - bd > tol) = false := decide_eq_false h1
    by_cases h2 : lw > bd
    · have hrf : r = false := by rw [hr.out, decide_eq_true (show FN.m - bd ≤ tol by omega), decide_eq_false (show ¬ lw ≤ bd by omega)]; rfl
      subst hrf
      have e2 : decide (lw > bd) = true := decide_eq_true h2
      go_wp2_with fail
      go_ret
      exact ⟨rfl, B2.out⟩
    · have e2 : decide (lw > bd) = false := decide_eq_false h2
      by_cases h3 : bd ≥ FN.m
      · have hrf : r = true := by rw [hr.out, decide_eq_true (show FN.m - bd ≤ tol by omega), decide_eq_true (show lw ≤ bd by omega), decide_eq_true (show FN.m ≤ bd from h3)]; rfl
        subst hrf
        have e3 : decide (bd ≥ FN.m) = true := decide_eq_true h3
        go_wp2_with fail
        go_ret
        exact ⟨rfl, B2.out⟩
      · have hrf : r = wv := by rw [hr.out, decide_eq_true (show FN.m - bd ≤ tol by omega), decide_eq_true (show lw ≤ bd by omega), decide_eq_false (show ¬ FN.m ≤ bd from h3)]; rfl
        subst hrf
        have e3 : decide (bd ≥ FN.m) = false := decide_eq_false h3
        have RX := Lib.hid (Mid.range K5.out 6 (box6 AA) (by rfl))
        go_wp2_with (first | ((with_reducible refine Mid.ldrg 26 (.tmp 7) p7 26 (box6 B).toArray K7.out ?_ ?_ ?_ ?_ ?_ ?_); (· rfl); (· first | rfl | simp [Region.wanted, yielded]); (· first | rfl | simp [Act.eval]); (· exact ⟨_, rfl, rfl⟩); (· kernel_rfl)) | ((with_reducible refine ldmg 26 (.tmp 39) p5 6 (box6 AA) RX.out ?_ ?_ ?_ ?_ ?_ ?_); (· rfl); (· first | rfl | simp [Region.wanted, yielded]); (· first | rfl | simp [Act.eval]); (· exact ⟨_, rfl, rfl⟩); (· kernel_rfl)) | (go_at_call 51; refine (WI.out _).mono ?_; rintro e w3 ⟨rfl, b3⟩))
        go_ret
        exact ⟨rfl, Buf.then_ B2.out b3⟩
set_option maxHeartbeats 16000000 in
set_option maxRecDepth 100000 in
theorem check_any (P : Pr A Ak R q) (hb : Below A.heap.size A w) (L : Lc Ak R FN lw AA) (t0 : 0 ≤ tol) :
    Calls Try.prog 28 #[.agg (prb R q).toArray, .agg (lrow FN lw AA).toArray, .int .i64 tol] w fun e w' => e = .returned (.int .i64 0) ∧ Below w.heap.size w w' := by
  have B1 : Below w.heap.size w ((w.alloc (.cells (prb R q).toArray 36)).alloc (.cells (lrow FN lw AA).toArray 28)) := (Mis.new_block _).alloc (by simp) _
  have H1 : ((w.alloc (.cells (prb R q).toArray 36)).alloc (.cells (lrow FN lw AA).toArray 28)).heap[w.heap.size]? = some (.cells (prb R q).toArray 36 (0, 0)) := Mis.hb (Mis.new_block _) (heap_alloc_new w _)
  have H2 : ((w.alloc (.cells (prb R q).toArray 36)).alloc (.cells (lrow FN lw AA).toArray 28)).heap[w.heap.size + 1]? = some (.cells (lrow FN lw AA).toArray 28 (0, 0)) := by
    have e1 : (w.alloc (.cells (prb R q).toArray 36)).heap.size = w.heap.size + 1 := by simp
    rw [← e1]; exact heap_alloc_new _ _
  obtain ⟨w1, hw1⟩ : ∃ z, z = (w.alloc (.cells (prb R q).toArray 36)).alloc (.cells (lrow FN lw AA).toArray 28) := ⟨_, rfl⟩
  rw [← hw1] at B1 H1 H2
  have VC := Lib.hid fun (w' : World) (h' : Below w1.heap.size w1 w') => P.vl w' (Buf.then_ (Buf.then_ hb B1) h')
  have AC := Lib.hid fun (w' : World) (h' : Below w1.heap.size w1 w') => P.at_ w' (Buf.then_ (Buf.then_ hb B1) h') (FN.x, FN.y, FN.z) L.inR
  rw [L.at_] at AC
  replace H1 := Lib.hid H1
  replace H2 := Lib.hid H2
  replace B1 := Lib.hid B1
  clear hb P L
  go_enter Try.func28, Try.ntmps28
  go_upto_region 1 with fail
  rw [← hw1]
  obtain ⟨p4, hp4⟩ : ∃ z, z = w.heap.size := ⟨_, rfl⟩
  obtain ⟨p5, hp5⟩ : ∃ z, z = w.heap.size + 1 := ⟨_, rfl⟩
  rw [← hp4] at H1
  rw [← hp5] at H2
  try rw [← hp5]
  try rw [← hp4]
  clear hw1 hp4 hp5
  go_upto_region 2 with (first | ((with_reducible refine Mid.ldr 36 (.tmp 3) p4 36 (prb R q).toArray H1.out ?_ ?_ ?_ ?_ ?_ ?_); (· rfl); (· rfl); (· first | rfl | simp [Act.eval]); (· exact ⟨_, rfl, rfl⟩); (· kernel_rfl)) | (go_at_call 49; refine (VC.out _ (Below.refl _ _)).mono ?_; rintro e w2 ⟨rfl, b2⟩))
  have K4 := Lib.hid (Mis.hb b2 H1.out)
  have K5 := Lib.hid (Mis.hb b2 H2.out)
  have B2 := Lib.hid b2
  have RX := Lib.hid (Mid.range K5.out 0 [.int .i64 FN.x, .int .i64 FN.y, .int .i64 FN.z] (by rfl))
  have dt : ¬ (tol < 0) := by omega
  clear H1 b2 VC
  go_upto_region 7 with (first | ((with_reducible refine Mid.ldr 36 (.tmp 3) p4 36 (prb R q).toArray K4.out ?_ ?_ ?_ ?_ ?_ ?_); (· rfl); (· rfl); (· first | rfl | simp [Act.eval]); (· exact ⟨_, rfl, rfl⟩); (· kernel_rfl)) | ((with_reducible refine Mid.ldm 24 (.tmp 20) p5 0 [.int .i64 FN.x, .int .i64 FN.y, .int .i64 FN.z] RX.out ?_ ?_ ?_ ?_ ?_ ?_); (· rfl); (· rfl); (· first | rfl | simp [Act.eval]); (· exact ⟨_, rfl, rfl⟩); (· kernel_rfl)) | (go_at_call 13; refine (AC.out _ B2.out).mono ?_; rintro e w3 ⟨rfl, b3⟩))
  have K6 := Lib.hid (Mis.hb b3 K5.out)
  have c3 : w3.cell? ⟨p5, 3, none⟩ = some (.int .i64 FN.t) := cell_of_row w3 p5 3 _ _ _ K6.out
  have c4 : w3.cell? ⟨p5, 4, none⟩ = some (.int .i64 FN.m) := cell_of_row w3 p5 4 _ _ _ K6.out
  have e1 : (FN.t != FN.t) = false := by simp
  have e2 : (FN.m != FN.m) = false := by simp
  go_wp2_with fail
  go_ret
  exact ⟨rfl, Buf.then_ B1.out (Buf.then_ B2.out b3)⟩
set_option maxHeartbeats 16000000 in
set_option maxRecDepth 100000 in
theorem check_out (P : Pr A Ak R q) (hb : Below A.heap.size A w) (hout : Geo.wiV FN.x FN.y FN.z FN.x FN.y FN.z R.a R.b R.c R.d R.e R.f = false) (t0 : 0 ≤ tol) :
    Calls Try.prog 28 #[.agg (prb R q).toArray, .agg (lrow FN lw AA).toArray, .int .i64 tol] w fun e w' => e = .returned (.int .i64 10) ∧ Below w.heap.size w w' := by
  have B1 : Below w.heap.size w ((w.alloc (.cells (prb R q).toArray 36)).alloc (.cells (lrow FN lw AA).toArray 28)) := (Mis.new_block _).alloc (by simp) _
  have H1 : ((w.alloc (.cells (prb R q).toArray 36)).alloc (.cells (lrow FN lw AA).toArray 28)).heap[w.heap.size]? = some (.cells (prb R q).toArray 36 (0, 0)) := Mis.hb (Mis.new_block _) (heap_alloc_new w _)
  have H2 : ((w.alloc (.cells (prb R q).toArray 36)).alloc (.cells (lrow FN lw AA).toArray 28)).heap[w.heap.size + 1]? = some (.cells (lrow FN lw AA).toArray 28 (0, 0)) := by
    have e1 : (w.alloc (.cells (prb R q).toArray 36)).heap.size = w.heap.size + 1 := by simp
    rw [← e1]; exact heap_alloc_new _ _
  obtain ⟨w1, hw1⟩ : ∃ z, z = (w.alloc (.cells (prb R q).toArray 36)).alloc (.cells (lrow FN lw AA).toArray 28) := ⟨_, rfl⟩
  rw [← hw1] at B1 H1 H2
  have VC := Lib.hid fun (w' : World) (h' : Below w1.heap.size w1 w') => P.vl w' (Buf.then_ (Buf.then_ hb B1) h')
  have AC := Lib.hid fun (w' : World) (h' : Below w1.heap.size w1 w') => at_out (w := w') P (Buf.then_ (Buf.then_ hb B1) h') FN.x FN.y FN.z hout
  replace H1 := Lib.hid H1
  replace H2 := Lib.hid H2
  replace B1 := Lib.hid B1
  clear hb P
  go_enter Try.func28, Try.ntmps28
  go_upto_region 1 with fail
  rw [← hw1]
  obtain ⟨p4, hp4⟩ : ∃ z, z = w.heap.size := ⟨_, rfl⟩
  obtain ⟨p5, hp5⟩ : ∃ z, z = w.heap.size + 1 := ⟨_, rfl⟩
  rw [← hp4] at H1
  rw [← hp5] at H2
  try rw [← hp5]
  try rw [← hp4]
  clear hw1 hp4 hp5
  go_upto_region 2 with (first | ((with_reducible refine Mid.ldr 36 (.tmp 3) p4 36 (prb R q).toArray H1.out ?_ ?_ ?_ ?_ ?_ ?_); (· rfl); (· rfl); (· first | rfl | simp [Act.eval]); (· exact ⟨_, rfl, rfl⟩); (· kernel_rfl)) | (go_at_call 49; refine (VC.out _ (Below.refl _ _)).mono ?_; rintro e w2 ⟨rfl, b2⟩))
  have K4 := Lib.hid (Mis.hb b2 H1.out)
  have K5 := Lib.hid (Mis.hb b2 H2.out)
  have B2 := Lib.hid b2
  have RX := Lib.hid (Mid.range K5.out 0 [.int .i64 FN.x, .int .i64 FN.y, .int .i64 FN.z] (by rfl))
  have dt : ¬ (tol < 0) := by omega
  clear H1 b2 VC
  go_upto_region 7 with (first | ((with_reducible refine Mid.ldr 36 (.tmp 3) p4 36 (prb R q).toArray K4.out ?_ ?_ ?_ ?_ ?_ ?_); (· rfl); (· rfl); (· first | rfl | simp [Act.eval]); (· exact ⟨_, rfl, rfl⟩); (· kernel_rfl)) | ((with_reducible refine Mid.ldm 24 (.tmp 20) p5 0 [.int .i64 FN.x, .int .i64 FN.y, .int .i64 FN.z] RX.out ?_ ?_ ?_ ?_ ?_ ?_); (· rfl); (· rfl); (· first | rfl | simp [Act.eval]); (· exact ⟨_, rfl, rfl⟩); (· kernel_rfl)) | (go_at_call 13; refine (AC.out _ B2.out).mono ?_; rintro e w3 ⟨rfl, b3⟩))
  have K6 := Lib.hid (Mis.hb b3 K5.out)
  have c3 : w3.cell? ⟨p5, 3, none⟩ = some (.int .i64 FN.t) := cell_of_row w3 p5 3 _ _ _ K6.out
  have c4 : w3.cell? ⟨p5, 4, none⟩ = some (.int .i64 FN.m) := cell_of_row w3 p5 4 _ _ _ K6.out
  go_wp2_with fail
  go_ret
  exact ⟨rfl, Buf.then_ B1.out (Buf.then_ B2.out b3)⟩
set_option maxHeartbeats 16000000 in
set_option maxRecDepth 100000 in
theorem check_off (P : Pr A Ak R q) (hb : Below A.heap.size A w) (hin : inB R (FN.x, FN.y, FN.z)) (hne : Ak.G (FN.x, FN.y, FN.z) ≠ (FN.t, FN.m)) (t0 : 0 ≤ tol) :
    Calls Try.prog 28 #[.agg (prb R q).toArray, .agg (lrow FN lw AA).toArray, .int .i64 tol] w fun e w' => e = .returned (.int .i64 10) ∧ Below w.heap.size w w' := by
  have B1 : Below w.heap.size w ((w.alloc (.cells (prb R q).toArray 36)).alloc (.cells (lrow FN lw AA).toArray 28)) := (Mis.new_block _).alloc (by simp) _
  have H1 : ((w.alloc (.cells (prb R q).toArray 36)).alloc (.cells (lrow FN lw AA).toArray 28)).heap[w.heap.size]? = some (.cells (prb R q).toArray 36 (0, 0)) := Mis.hb (Mis.new_block _) (heap_alloc_new w _)
  have H2 : ((w.alloc (.cells (prb R q).toArray 36)).alloc (.cells (lrow FN lw AA).toArray 28)).heap[w.heap.size + 1]? = some (.cells (lrow FN lw AA).toArray 28 (0, 0)) := by
    have e1 : (w.alloc (.cells (prb R q).toArray 36)).heap.size = w.heap.size + 1 := by simp
    rw [← e1]; exact heap_alloc_new _ _
  obtain ⟨w1, hw1⟩ : ∃ z, z = (w.alloc (.cells (prb R q).toArray 36)).alloc (.cells (lrow FN lw AA).toArray 28) := ⟨_, rfl⟩
  rw [← hw1] at B1 H1 H2
  have VC := Lib.hid fun (w' : World) (h' : Below w1.heap.size w1 w') => P.vl w' (Buf.then_ (Buf.then_ hb B1) h')
  have AC := Lib.hid fun (w' : World) (h' : Below w1.heap.size w1 w') => P.at_ w' (Buf.then_ (Buf.then_ hb B1) h') (FN.x, FN.y, FN.z) hin
  obtain ⟨t1, ht1⟩ : ∃ z, z = (Ak.G (FN.x, FN.y, FN.z)).1 := ⟨_, rfl⟩
  obtain ⟨m1, hm1⟩ : ∃ z, z = (Ak.G (FN.x, FN.y, FN.z)).2 := ⟨_, rfl⟩
  rw [← ht1, ← hm1] at AC
  have hne2 : t1 ≠ FN.t ∨ m1 ≠ FN.m := by
    by_cases e : t1 = FN.t
    · refine .inr fun e2 => hne ?_
      rw [← e, ← e2, ht1, hm1]
    · exact .inl e
  replace ht1 := Lib.hid ht1
  replace hm1 := Lib.hid hm1
  clear hne hin
  replace H1 := Lib.hid H1
  replace H2 := Lib.hid H2
  replace B1 := Lib.hid B1
  clear hb P
  go_enter Try.func28, Try.ntmps28
  go_upto_region 1 with fail
  rw [← hw1]
  obtain ⟨p4, hp4⟩ : ∃ z, z = w.heap.size := ⟨_, rfl⟩
  obtain ⟨p5, hp5⟩ : ∃ z, z = w.heap.size + 1 := ⟨_, rfl⟩
  rw [← hp4] at H1
  rw [← hp5] at H2
  try rw [← hp5]
  try rw [← hp4]
  clear hw1 hp4 hp5
  go_upto_region 2 with (first | ((with_reducible refine Mid.ldr 36 (.tmp 3) p4 36 (prb R q).toArray H1.out ?_ ?_ ?_ ?_ ?_ ?_); (· rfl); (· rfl); (· first | rfl | simp [Act.eval]); (· exact ⟨_, rfl, rfl⟩); (· kernel_rfl)) | (go_at_call 49; refine (VC.out _ (Below.refl _ _)).mono ?_; rintro e w2 ⟨rfl, b2⟩))
  have K4 := Lib.hid (Mis.hb b2 H1.out)
  have K5 := Lib.hid (Mis.hb b2 H2.out)
  have B2 := Lib.hid b2
  have RX := Lib.hid (Mid.range K5.out 0 [.int .i64 FN.x, .int .i64 FN.y, .int .i64 FN.z] (by rfl))
  have dt : ¬ (tol < 0) := by omega
  clear H1 b2 VC
  go_upto_region 7 with (first | ((with_reducible refine Mid.ldr 36 (.tmp 3) p4 36 (prb R q).toArray K4.out ?_ ?_ ?_ ?_ ?_ ?_); (· rfl); (· rfl); (· first | rfl | simp [Act.eval]); (· exact ⟨_, rfl, rfl⟩); (· kernel_rfl)) | ((with_reducible refine Mid.ldm 24 (.tmp 20) p5 0 [.int .i64 FN.x, .int .i64 FN.y, .int .i64 FN.z] RX.out ?_ ?_ ?_ ?_ ?_ ?_); (· rfl); (· rfl); (· first | rfl | simp [Act.eval]); (· exact ⟨_, rfl, rfl⟩); (· kernel_rfl)) | (go_at_call 13; refine (AC.out _ B2.out).mono ?_; rintro e w3 ⟨rfl, b3⟩))
  have K6 := Lib.hid (Mis.hb b3 K5.out)
  have c3 : w3.cell? ⟨p5, 3, none⟩ = some (.int .i64 FN.t) := cell_of_row w3 p5 3 _ _ _ K6.out
  have c4 : w3.cell? ⟨p5, 4, none⟩ = some (.int .i64 FN.m) := cell_of_row w3 p5 4 _ _ _ K6.out
  by_cases e : t1 = FN.t
  · have em : m1 ≠ FN.m := by rcases hne2 with q | q; exact absurd e q; exact q
    have e1 : (t1 != FN.t) = false := by simp [e]
    have e2 : (m1 != FN.m) = true := by simp [em]
    clear hne2
    replace e := Lib.hid e
    go_wp2_with fail
    go_ret
    exact ⟨rfl, Buf.then_ B1.out (Buf.then_ B2.out b3)⟩
  · have e1 : (t1 != FN.t) = true := by simp [e]
    clear hne2
    go_wp2_with fail
    go_ret
    exact ⟨rfl, Buf.then_ B1.out (Buf.then_ B2.out b3)⟩
end
end Prf
end Loc
end Go.Proofs.Ytldgihlhioeipaa

/- The closure of proof.Check. -/
set_option linter.unusedVariables false
set_option linter.unusedSimpArgs false
namespace Go.Proofs.Ytldgihlhioeipaa
open Go.RowKit
namespace Loc
namespace Prf
/-- A list of numbers that can be read. -/
def Lst (A : World) (cv : Value) (c : List Int) : Prop := (c = [] ∧ ∃ (ad : Option Addr) (cc : Nat), cv = .slice ad 0 cc) ∨ ∃ b o cc : Nat, cv = .slice (some ⟨b, o, none⟩) c.length cc ∧ c.length ≤ cc ∧ b < A.heap.size ∧ ∀ j (h : j < c.length), A.cell? ⟨b, o + j, none⟩ = some (.int .i64 c[j])
theorem Lst.form {A : World} {cv : Value} {c : List Int} (h : Lst A cv c) : ∃ ad cc, cv = .slice ad c.length cc := by
  rcases h with ⟨rfl, ad, cc, rfl⟩ | ⟨b, o, cc, rfl, _⟩
  · exact ⟨ad, cc, rfl⟩
  · exact ⟨_, cc, rfl⟩
theorem Lst.below {A w : World} {cv : Value} {c : List Int} (h : Lst A cv c) (hb : Below A.heap.size A w) : Lst w cv c := by
  rcases h with h | ⟨b, o, cc, h1, h2, h3, h4⟩
  · exact .inl h
  · exact .inr ⟨b, o, cc, h1, h2, Nat.lt_of_lt_of_le h3 hb.size, fun j hj => by rw [hb.cell (p := ⟨b, o + j, none⟩) h3]; exact h4 j hj⟩
theorem two_boxes (w : World) (c1 c2 : Array Value) :
    ((w.alloc (.cells #[.int .i64 0, .int .i64 0, .int .i64 0, .int .i64 0, .int .i64 0, .int .i64 0] 26)).alloc (.cells #[.int .i64 0, .int .i64 0, .int .i64 0, .int .i64 0, .int .i64 0, .int .i64 0] 26)).heap[w.heap.size]? = some (.cells #[.int .i64 0, .int .i64 0, .int .i64 0, .int .i64 0, .int .i64 0, .int .i64 0] 26 (0, 0)) ∧
    (((w.alloc (.cells #[.int .i64 0, .int .i64 0, .int .i64 0, .int .i64 0, .int .i64 0, .int .i64 0] 26)).alloc (.cells #[.int .i64 0, .int .i64 0, .int .i64 0, .int .i64 0, .int .i64 0, .int .i64 0] 26)).setRow w.heap.size c1).heap[w.heap.size + 1]? = some (.cells #[.int .i64 0, .int .i64 0, .int .i64 0, .int .i64 0, .int .i64 0, .int .i64 0] 26 (0, 0)) ∧
    Below w.heap.size w ((((w.alloc (.cells #[.int .i64 0, .int .i64 0, .int .i64 0, .int .i64 0, .int .i64 0, .int .i64 0] 26)).alloc (.cells #[.int .i64 0, .int .i64 0, .int .i64 0, .int .i64 0, .int .i64 0, .int .i64 0] 26)).setRow w.heap.size c1).setRow (w.heap.size + 1) c2) ∧
    ((((w.alloc (.cells #[.int .i64 0, .int .i64 0, .int .i64 0, .int .i64 0, .int .i64 0, .int .i64 0] 26)).alloc (.cells #[.int .i64 0, .int .i64 0, .int .i64 0, .int .i64 0, .int .i64 0, .int .i64 0] 26)).setRow w.heap.size c1).setRow (w.heap.size + 1) c2).heap[w.heap.size]? = some (.cells c1 26 (0, 0)) ∧
    ((((w.alloc (.cells #[.int .i64 0, .int .i64 0, .int .i64 0, .int .i64 0, .int .i64 0, .int .i64 0] 26)).alloc (.cells #[.int .i64 0, .int .i64 0, .int .i64 0, .int .i64 0, .int .i64 0, .int .i64 0] 26)).setRow w.heap.size c1).setRow (w.heap.size + 1) c2).heap[w.heap.size + 1]? = some (.cells c2 26 (0, 0)) := by
  have Y5 : ((w.alloc (.cells #[.int .i64 0, .int .i64 0, .int .i64 0, .int .i64 0, .int .i64 0, .int .i64 0] 26)).alloc (.cells #[.int .i64 0, .int .i64 0, .int .i64 0, .int .i64 0, .int .i64 0, .int .i64 0] 26)).heap[w.heap.size]? = some (.cells #[.int .i64 0, .int .i64 0, .int .i64 0, .int .i64 0, .int .i64 0, .int .i64 0] 26 (0, 0)) := ((Mis.new_block (w := w.alloc (.cells #[.int .i64 0, .int .i64 0, .int .i64 0, .int .i64 0, .int .i64 0, .int .i64 0] 26)) _).block _ (by simp)).trans (heap_alloc_new w _)
  have Y6 : (((w.alloc (.cells #[.int .i64 0, .int .i64 0, .int .i64 0, .int .i64 0, .int .i64 0, .int .i64 0] 26)).alloc (.cells #[.int .i64 0, .int .i64 0, .int .i64 0, .int .i64 0, .int .i64 0, .int .i64 0] 26)).setRow w.heap.size c1).heap[w.heap.size + 1]? = some (.cells #[.int .i64 0, .int .i64 0, .int .i64 0, .int .i64 0, .int .i64 0, .int .i64 0] 26 (0, 0)) := (setRow_other _ _ _ _ (by omega)).trans (by have := heap_alloc_new (w.alloc (.cells #[.int .i64 0, .int .i64 0, .int .i64 0, .int .i64 0, .int .i64 0, .int .i64 0] 26)) (.cells #[.int .i64 0, .int .i64 0, .int .i64 0, .int .i64 0, .int .i64 0, .int .i64 0] 26); simpa using this)
  exact ⟨Y5, Y6, Mid.below_row (Mid.below_row (Buf.then_ (Mis.new_block _) (Mis.new_block _)) _ _ (Nat.le_refl _)) _ _ (by omega), (setRow_other _ _ _ _ (by omega)).trans (setRow_heap _ _ _ _ _ _ Y5), setRow_heap _ _ _ _ _ _ Y6⟩
theorem split_one {B : Bx} (h : one B = true) (bv : Geo.BV B.a B.b B.c B.d B.e B.f) (w' : World) :
    Calls Try.prog 31 #[.agg (box6 B).toArray] w' fun r w'' => r = .returned (.tuple #[.agg #[.int .i64 0, .int .i64 0, .int .i64 0, .int .i64 0, .int .i64 0, .int .i64 0], .agg #[.int .i64 0, .int .i64 0, .int .i64 0, .int .i64 0, .int .i64 0, .int .i64 0], .bool false]) ∧ Below w'.heap.size w' w'' := by
  obtain ⟨Ba, Bb, Bc, Bd, Be, Bf⟩ := B
  unfold one at h
  simp at h
  obtain ⟨rfl, rfl, rfl⟩ := h
  exact Geo.split_no _ _ _ bv w'
/-- What the closure of Check has captured. -/
structure RM (A : World) (pa pc pp px pt pr : Nat) (cv fv : Value) (R : Bx) (q : Pq) (FN : St) (lw : Int) (AA : Bx) (tol : Int) (w : World) (k : Nat) : Prop where
  bel : Below A.heap.size A w
  ge : A.heap.size ≤ pa
  ka : w.heap[pa]? = some (.cells #[.int .i64 (k : Int)] 3 (0, 0))
  kc : w.heap[pc]? = some (.cells #[cv] 22 (0, 0))
  kp : w.heap[pp]? = some (.cells (prb R q).toArray 36 (0, 0))
  kx : w.heap[px]? = some (.cells (lrow FN lw AA).toArray 28 (0, 0))
  kt : w.heap[pt]? = some (.cells #[.int .i64 tol] 3 (0, 0))
  kr : w.heap[pr]? = some (.cells #[fv] 75 (0, 0))
  nc : pc ≠ pa
  np : pp ≠ pa
  nx : px ≠ pa
  nt : pt ≠ pa
  nr : pr ≠ pa
section
variable {A w w' : World} {pa pc pp px pt pr : Nat} {cv fv : Value} {R : Bx} {q : Pq} {FN : St} {lw : Int} {AA : Bx} {tol : Int} {k : Nat}
theorem RM.below (M : RM A pa pc pp px pt pr cv fv R q FN lw AA tol w k) (h : Below w.heap.size w w') : RM A pa pc pp px pt pr cv fv R q FN lw AA tol w' k := by
  obtain ⟨be, ge, ka, kc, kp, kx, kt, kr, n1, n2, n3, n4, n5⟩ := M
  exact ⟨Buf.then_ be h, ge, Mis.hb h ka, Mis.hb h kc, Mis.hb h kp, Mis.hb h kx, Mis.hb h kt, Mis.hb h kr, n1, n2, n3, n4, n5⟩
theorem RM.at (M : RM A pa pc pp px pt pr cv fv R q FN lw AA tol w k) (k' : Nat) : RM A pa pc pp px pt pr cv fv R q FN lw AA tol (w.setCell ⟨pa, 0, none⟩ (.int .i64 (k' : Int))) k' := by
  obtain ⟨be, ge, ka, kc, kp, kx, kt, kr, n1, n2, n3, n4, n5⟩ := M
  have far : ∀ {b : Nat} {o : Obj}, b ≠ pa → w.heap[b]? = some o → (w.setCell ⟨pa, 0, none⟩ (.int .i64 (k' : Int))).heap[b]? = some o := fun hb ho => (Below.heap_setCell w ⟨pa, 0, none⟩ _ _ hb).trans ho
  exact ⟨be.setCell ge _, ge, one_setCell ka, far n1 kc, far n2 kp, far n3 kx, far n4 kt, far n5 kr, n1, n2, n3, n4, n5⟩
end
def FV (pa pc pp px pt pr : Nat) : Value := .func (.func 32) #[] #[.pointer (some ⟨pa, 0, none⟩), .pointer (some ⟨pc, 0, none⟩), .pointer (some ⟨pp, 0, none⟩), .pointer (some ⟨px, 0, none⟩), .pointer (some ⟨pt, 0, none⟩), .pointer (some ⟨pr, 0, none⟩)]
/-- What the closure returns. -/
def RdPost (A : World) (pa pc pp px pt pr : Nat) (cv : Value) (R : Bx) (q : Pq) (FN : St) (lw : Int) (AA : Bx) (tol : Int) (c : List Int) (o : Option (List Int)) (w0 : World) (e : Ending) (w' : World) : Prop :=
  ∃ k', k' ≤ c.length ∧ RM A pa pc pp px pt pr cv (FV pa pc pp px pt pr) R q FN lw AA tol w' k' ∧ e = .returned (.bool o.isSome) ∧ (∀ t, o = some t → c.drop k' = t) ∧ w0.grownBy w' (some pa)
theorem sfar (w : World) (b o : Nat) (v : Value) : w.grownBy (w.setCell ⟨b, o, none⟩ v) (some b) :=
  ⟨rfl, rfl, rfl, by rw [World.size_setCell]; exact Nat.le_refl _, fun k hk hne => Below.heap_setCell w ⟨b, o, none⟩ v k (fun e => hne (by rw [e]))⟩
theorem bfar {w w' : World} {b q : Nat} {o : Obj} (h : w.heap[b]? = some o) (f : w.grownBy w' (some q)) (h1 : b ≠ q) : w'.heap[b]? = some o :=
  (f.block b (Array.getElem?_eq_some_iff.1 h).1 (fun e => h1 (by cases e; rfl))).trans h
theorem rd_eq (C : Ask) (pv : Bx → Bool) (f : Nat) (B : Bx) (v : Int) (l : List Int) : rd C pv (f + 1) B (v :: l) = if v = 0 then (if pv B = true then some l else none) else if v = 1 then (if one B = true then none else (rd C pv f (C.S B).1 l).bind (rd C pv f (C.S B).2)) else none := rfl
section
variable {A : World} {Ak : Ask} {R : Bx} {q : Pq} {FN : St} {lw : Int} {AA : Bx} {tol : Int}
set_option maxHeartbeats 16000000 in
set_option maxRecDepth 100000 in
theorem read_any (P : Pr A Ak R q) (L : Lc Ak R FN lw AA) (t0 : 0 ≤ tol) (t9 : tol ≤ 1000000) {cv : Value} {c : List Int} (hc : Lst A cv c) (hl : c.length ≤ 100000) (pa pc pp px pt pr : Nat) : ∀ (f : Nat) (B : Bx), Sb R B → np B ≤ (f : Int) → ∀ (k : Nat), k ≤ c.length → ∀ w,
    RM A pa pc pp px pt pr cv (FV pa pc pp px pt pr) R q FN lw AA tol w k →
    Calls Try.prog 32 #[.agg (box6 B).toArray, .pointer (some ⟨pa, 0, none⟩), .pointer (some ⟨pc, 0, none⟩), .pointer (some ⟨pp, 0, none⟩), .pointer (some ⟨px, 0, none⟩), .pointer (some ⟨pt, 0, none⟩), .pointer (some ⟨pr, 0, none⟩)] w
      (RdPost A pa pc pp px pt pr cv R q FN lw AA tol c (rd Ak (prv Ak FN.m lw AA tol) f B (c.drop k)) w) := by
  intro f
  induction f with
  | zero => intro B hB hn; exact absurd (np_pos hB) (by omega)
  | succ f ih =>
    intro B hB hn k hk w M
    obtain ⟨ad, cc, rfl⟩ := hc.form
    have N1 : Below w.heap.size w (w.alloc (.cells (box6 B).toArray 26)) := Mis.new_block _
    have K7 := Lib.hid (heap_alloc_new w (.cells (box6 B).toArray 26))
    have M1 := Lib.hid (M.below N1)
    have G1 := Lib.hid (grown_low (r := some pa) N1)
    obtain ⟨w1, hw1⟩ : ∃ z, z = w.alloc (.cells (box6 B).toArray 26) := ⟨_, rfl⟩
    rw [← hw1] at K7 M1 G1
    have hS := Lib.hid hB
    have HP := Lib.hid P
    have HL := Lib.hid L
    have IH := Lib.hid ih
    have bvB := Lib.hid (P.bv B hB)
    have s7 := (Array.getElem?_eq_some_iff.1 M.ka).1
    clear M N1 hB P L ih
    obtain ⟨oo, hoo⟩ : ∃ z, z = rd Ak (prv Ak FN.m lw AA tol) (f + 1) B (c.drop k) := ⟨_, rfl⟩
    rw [← hoo]
    replace hoo := Lib.hid hoo
    go_enter Try.func32, Try.ntmps32
    go_upto_region 1 with fail
    rw [← hw1]
    obtain ⟨p7, hp7⟩ : ∃ z, z = w.heap.size := ⟨_, rfl⟩
    rw [← hp7] at K7 ⊢
    have p7a : p7 ≠ pa := by omega
    clear hw1 hp7 s7
    have ca := cell_of_one M1.out.ka
    have fa := free_of_one M1.out.ka
    have cc1 := cell_of_one M1.out.kc
    by_cases hkl : k = c.length
    · have hrd : oo = none := by rw [hoo.out, hkl, List.drop_length]; rfl
      subst hrd
      have e1 : ((k : Int) == (c.length : Int)) = true := by rw [hkl]; simp
      go_wp2_with fail
      go_ret
      exact ⟨k, hk, M1.out, rfl, (fun t ht => by cases ht), G1.out⟩
    · have hkn : k < c.length := by omega
      have e1 : ((k : Int) == (c.length : Int)) = false := by simp; omega
      obtain ⟨b, o, rfl, hcc, hbl, hcell⟩ : ∃ b o : Nat, ad = some ⟨b, o, none⟩ ∧ c.length ≤ cc ∧ b < A.heap.size ∧ ∀ j (h : j < c.length), A.cell? ⟨b, o + j, none⟩ = some (.int .i64 c[j]) := by
        rcases hc with ⟨rfl, _⟩ | ⟨b, o, cc', h1, h2, h3, h4⟩
        · simp at hkn
        · injection h1 with h1 _ h5
          subst h5
          exact ⟨b, o, h1, h2, h3, h4⟩
      obtain ⟨v, hv⟩ : ∃ v, v = c[k] := ⟨_, rfl⟩
      have hdr : c.drop k = v :: c.drop (k + 1) := by rw [hv]; exact List.drop_eq_getElem_cons hkn
      have hoo2 := hoo.out
      rw [hdr, rd_eq] at hoo2
      clear hc hoo
      have hcv := hcell k hkn
      rw [← hv] at hcv
      replace hv := Lib.hid hv
      replace hdr := Lib.hid hdr
      go_upto_region 4 with fail
      have M2 := Lib.hid (M1.out.at (k + 1))
      have K7b := Lib.hid ((Below.heap_setCell w1 ⟨pa, 0, none⟩ (.int .i64 ((k + 1 : Nat) : Int)) p7 p7a).trans K7.out)
      have ek : ((k + 1 : Nat) : Int) = (k : Int) + 1 := by omega
      rw [ek] at M2 K7b
      have G2 := Lib.hid (G1.out.trans (sfar w1 pa 0 (.int .i64 ((k : Int) + 1))))
      obtain ⟨w2, hw2⟩ : ∃ z, z = w1.setCell ⟨pa, 0, none⟩ (.int .i64 ((k : Int) + 1)) := ⟨_, rfl⟩
      rw [← hw2] at M2 K7b G2 ⊢
      clear G1
      have k1 : (k : Int) < (c.length : Int) := by omega
      have e2 : IntKind.i64.wrap ((k : Int) + 1 - 1) = (k : Int) := by rw [show (k : Int) + 1 - 1 = (k : Int) by omega]; exact IntWalk.i64_in _ (by omega)
      have ca2 := cell_of_one M2.out.ka
      have cc2 := cell_of_one M2.out.kc
      rw [ek] at ca2
      have hcc2 : (c.length : Int) ≤ (cc : Int) := by omega
      have cv2 : w2.cell? ⟨b, o + k, none⟩ = some (.int .i64 v) := by rw [M2.out.bel.cell (p := ⟨b, o + k, none⟩) hbl]; exact hcv
      clear ca fa cc1 hw2 M1 K7 hcell
      by_cases h0 : v = 0
      · subst h0
        rw [if_pos rfl] at hoo2
        have PC := Lib.hid (proves_any HP.out M2.out.bel HL.out t0 t9 hS.out)
        have hpv : oo.isSome = prv Ak FN.m lw AA tol B := by rw [hoo2]; cases prv Ak FN.m lw AA tol B <;> rfl
        rw [← hpv] at PC
        replace hoo2 := Lib.hid hoo2
        clear hpv
        have ct := cell_of_one M2.out.kt
        go_wp2_with (first | ((with_reducible refine Mid.ldr 36 (.tmp 3) pp 36 (prb R q).toArray M2.out.kp ?_ ?_ ?_ ?_ ?_ ?_); (· rfl); (· rfl); (· first | rfl | simp [Act.eval]); (· exact ⟨_, rfl, rfl⟩); (· kernel_rfl)) | ((with_reducible refine Mid.ldr 28 (.tmp 4) px 28 (lrow FN lw AA).toArray M2.out.kx ?_ ?_ ?_ ?_ ?_ ?_); (· rfl); (· rfl); (· first | rfl | simp [Act.eval]); (· exact ⟨_, rfl, rfl⟩); (· kernel_rfl)) | ((with_reducible refine Mid.ldr 26 (.tmp 7) p7 26 (box6 B).toArray K7b.out ?_ ?_ ?_ ?_ ?_ ?_); (· rfl); (· rfl); (· first | rfl | simp [Act.eval]); (· exact ⟨_, rfl, rfl⟩); (· kernel_rfl)) | (go_at_call 30; refine PC.out.mono ?_; rintro e w3 ⟨rfl, b3⟩))
        go_ret
        exact ⟨k + 1, hkn, M2.out.below b3, rfl, (fun t ht => by
          rw [hoo2.out] at ht
          cases hpp : prv Ak FN.m lw AA tol B with
          | true => rw [hpp] at ht; simpa using ht
          | false => rw [hpp] at ht; simp at ht), G2.out.trans (grown_low b3)⟩
      · rw [if_neg h0] at hoo2
        have h0b : (v == 0) = false := by rw [beq_eq_false_iff_ne]; exact h0
        by_cases h1 : v = 1
        · subst h1
          rw [if_pos rfl] at hoo2
          by_cases ho : one B = true
          · rw [if_pos ho] at hoo2
            subst hoo2
            have SN := Lib.hid fun w' => split_one ho bvB.out w'
            go_wp2_with (first | ((with_reducible refine Mid.ldr 26 (.tmp 7) p7 26 (box6 B).toArray K7b.out ?_ ?_ ?_ ?_ ?_ ?_); (· rfl); (· rfl); (· first | rfl | simp [Act.eval]); (· exact ⟨_, rfl, rfl⟩); (· kernel_rfl)) | (go_at_call 31; refine (SN.out _).mono ?_; rintro e w3 ⟨rfl, b3⟩))
            go_ret
            exact ⟨k + 1, hkn, (M2.out.below b3).below (Buf.then_ (Mis.new_block _) (Mis.new_block _)), rfl, (fun t ht => by cases ht), G2.out.trans (grown_low (Buf.then_ b3 (Buf.then_ (Mis.new_block _) (Mis.new_block _))))⟩
          · rw [if_neg ho] at hoo2
            have ho' : one B = false := by simpa using ho
            obtain ⟨B1, hB1⟩ : ∃ z, z = (Ak.S B).1 := ⟨_, rfl⟩
            obtain ⟨B2, hB2⟩ : ∃ z, z = (Ak.S B).2 := ⟨_, rfl⟩
            have SPL := HP.out.sp B hS.out ho'
            obtain ⟨t1, t2, n1, n2, _⟩ := halves HP.out.good hS.out ho' hn
            rw [← hB1, ← hB2] at SPL hoo2
            replace hoo2 := Lib.hid hoo2
            rw [← hB1] at t1 n1
            rw [← hB2] at t2 n2
            replace SPL := Lib.hid SPL
            have IH1 := Lib.hid fun (w' : World) (k' : Nat) (hk' : k' ≤ c.length) (M' : RM A pa pc pp px pt pr (.slice (some ⟨b, o, none⟩) c.length cc) (FV pa pc pp px pt pr) R q FN lw AA tol w' k') => IH.out B1 t1 n1 k' hk' w' M'
            have IH2 := Lib.hid fun (w' : World) (k' : Nat) (hk' : k' ≤ c.length) (M' : RM A pa pc pp px pt pr (.slice (some ⟨b, o, none⟩) c.length cc) (FV pa pc pp px pt pr) R q FN lw AA tol w' k') => IH.out B2 t2 n2 k' hk' w' M'
            clear IH hB1 hB2 t1 t2 n1 n2
            go_upto_region 8 with fail
            go_wp2_with ((with_reducible refine Mid.ldr 26 (.tmp 7) p7 26 (box6 B).toArray K7b.out ?_ ?_ ?_ ?_ ?_ ?_); (· rfl); (· rfl); (· first | rfl | simp [Act.eval]); (· exact ⟨_, rfl, rfl⟩); (· kernel_rfl))
            refine (SPL.out _).mono ?_
            rintro e w3 ⟨rfl, b3⟩
            have M3 := Lib.hid (M2.out.below b3)
            have G3 := Lib.hid (G2.out.trans (grown_low b3))
            obtain ⟨Y5, Y6, N4, K8, K9⟩ := two_boxes w3 (box6 B1).toArray (box6 B2).toArray
            replace Y5 := Lib.hid Y5
            replace Y6 := Lib.hid Y6
            clear b3 SPL
            go_upto_region 9 with (first | ((with_reducible refine Mid.str 26 (.tmp 9) (.tmp 35) w3.heap.size 26 #[.int .i64 0, .int .i64 0, .int .i64 0, .int .i64 0, .int .i64 0, .int .i64 0] (box6 B1).toArray Y5.out ?_ ?_ ?_ ?_ ?_ ?_ ?_ ?_); (· rfl); (· rfl); (· first | rfl | simp [Act.eval]); (· first | rfl | simp [Act.eval]); (· kernel_rfl); (· rfl); (· simp [box6, Value.oneCell'])) | ((with_reducible refine Mid.str 26 (.tmp 10) (.tmp 36) (w3.heap.size + 1) 26 #[.int .i64 0, .int .i64 0, .int .i64 0, .int .i64 0, .int .i64 0, .int .i64 0] (box6 B2).toArray Y6.out ?_ ?_ ?_ ?_ ?_ ?_ ?_ ?_); (· rfl); (· rfl); (· first | rfl | simp [Act.eval]); (· first | rfl | simp [Act.eval]); (· kernel_rfl); (· rfl); (· simp [box6, Value.oneCell'])))
            try simp only [Act.put]
            obtain ⟨w4, hw4⟩ : ∃ z, z = (((w3.alloc (.cells #[.int .i64 0, .int .i64 0, .int .i64 0, .int .i64 0, .int .i64 0, .int .i64 0] 26)).alloc (.cells #[.int .i64 0, .int .i64 0, .int .i64 0, .int .i64 0, .int .i64 0, .int .i64 0] 26)).setRow w3.heap.size (box6 B1).toArray).setRow (w3.heap.size + 1) (box6 B2).toArray := ⟨_, rfl⟩
            rw [← hw4] at N4 K8 K9 ⊢
            have M4 := Lib.hid (M3.out.below N4)
            have G4 := Lib.hid (G3.out.trans (grown_low N4))
            obtain ⟨p9, hp9⟩ : ∃ z, z = w3.heap.size := ⟨_, rfl⟩
            obtain ⟨p10, hp10⟩ : ∃ z, z = w3.heap.size + 1 := ⟨_, rfl⟩
            have g9 : p9 ≠ pa := by have := (Array.getElem?_eq_some_iff.1 M3.out.ka).1; omega
            have g10 : p10 ≠ pa := by have := (Array.getElem?_eq_some_iff.1 M3.out.ka).1; omega
            rw [← hp10] at K9 ⊢
            rw [← hp9] at K8 ⊢
            replace K8 := Lib.hid K8
            replace K9 := Lib.hid K9
            clear hw4 hp9 hp10 N4 Y5 Y6 M3 M2 K7b G2 G3
            have C1 := Lib.hid (IH1.out w4 (k + 1) hkn M4.out)
            have cr := cell_of_one M4.out.kr
            unfold FV at cr
            obtain ⟨o1, ho1⟩ : ∃ z, z = rd Ak (prv Ak FN.m lw AA tol) f B1 (c.drop (k + 1)) := ⟨_, rfl⟩
            rw [← ho1] at C1
            have hoo3 := hoo2.out
            rw [← ho1] at hoo3
            clear hoo2
            replace ho1 := Lib.hid ho1
            cases o1 with
            | none =>
              obtain rfl : oo = none := hoo3
              go_wp2_with (first | ((with_reducible refine Mid.ldrg 26 (.tmp 9) p9 26 (box6 B1).toArray K8.out ?_ ?_ ?_ ?_ ?_ ?_); (· rfl); (· first | rfl | simp [Region.wanted, yielded]); (· first | rfl | simp [Act.eval]); (· exact ⟨_, rfl, rfl⟩); (· kernel_rfl)) | fail)
              refine C1.out.mono ?_
              rintro e w5 ⟨k1', hk1, M5, he, hd1, hg1⟩
              rw [Option.isSome_none] at he
              subst he
              go_wp2_with fail
              go_ret
              exact ⟨k1', hk1, M5, rfl, (fun t ht => by cases ht), G4.out.trans hg1⟩
            | some t =>
              rw [Option.bind_some] at hoo3
              obtain ⟨o2, ho2⟩ : ∃ z, z = rd Ak (prv Ak FN.m lw AA tol) f B2 t := ⟨_, rfl⟩
              rw [← ho2] at hoo3
              subst hoo3
              replace ho2 := Lib.hid ho2
              go_wp2_with (first | ((with_reducible refine Mid.ldrg 26 (.tmp 9) p9 26 (box6 B1).toArray K8.out ?_ ?_ ?_ ?_ ?_ ?_); (· rfl); (· first | rfl | simp [Region.wanted, yielded]); (· first | rfl | simp [Act.eval]); (· exact ⟨_, rfl, rfl⟩); (· kernel_rfl)) | fail)
              refine C1.out.mono ?_
              rintro e w5 ⟨k1', hk1, M5, he, hd1, hg1⟩
              rw [Option.isSome_some] at he
              subst he
              have hd1' := hd1 t rfl
              have K10 := Lib.hid (bfar K9.out hg1 g10)
              have C2 := Lib.hid (IH2.out w5 k1' hk1 M5)
              rw [hd1', ← ho2.out] at C2
              have cr2 := cell_of_one M5.kr
              unfold FV at cr2
              have M5h := Lib.hid M5
              have hg1h := Lib.hid hg1
              clear C1 IH1 IH2 hd1 hd1' hk1 M5 hg1 cr K8 K9
              go_wp2_with (first | ((with_reducible refine Mid.ldrg 26 (.tmp 10) p10 26 (box6 B2).toArray K10.out ?_ ?_ ?_ ?_ ?_ ?_); (· rfl); (· first | rfl | simp [Region.wanted, yielded]); (· first | rfl | simp [Act.eval]); (· exact ⟨_, rfl, rfl⟩); (· kernel_rfl)) | fail)
              refine C2.out.mono ?_
              rintro e w6 ⟨k2', hk2, M6, he, hd2, hg2⟩
              cases oo with
              | none =>
                rw [Option.isSome_none] at he
                subst he
                go_wp2_with fail
                go_ret
                exact ⟨k2', hk2, M6, rfl, hd2, G4.out.trans (hg1h.out.trans hg2)⟩
              | some t2 =>
                rw [Option.isSome_some] at he
                subst he
                go_wp2_with fail
                go_ret
                exact ⟨k2', hk2, M6, rfl, hd2, G4.out.trans (hg1h.out.trans hg2)⟩
        · rw [if_neg h1] at hoo2
          subst hoo2
          have h1b : (v == 1) = false := by rw [beq_eq_false_iff_ne]; exact h1
          go_wp2_with fail
          go_ret
          exact ⟨k + 1, hkn, M2.out, rfl, (fun t ht => by cases ht), G2.out⟩
end
end Prf
end Loc
end Go.Proofs.Ytldgihlhioeipaa

/- proof.Make and its closure. -/
set_option linter.unusedVariables false
set_option linter.unusedSimpArgs false
namespace Go.Proofs.Ytldgihlhioeipaa
open Go.RowKit
namespace Loc
namespace Prf
/-- What the closure of Make has captured. -/
structure WM (A : World) (pp px pt ps pw : Nat) (fv : Value) (R : Bx) (q : Pq) (FN : St) (lw : Int) (AA : Bx) (tol : Int) (w : World) (v : Value) (L : List Int) : Prop where
  bel : Below A.heap.size A w
  own : w.ownsRow (pw + 1) 3 1 v L.length (L.map fun z => .int .i64 z)
  kp : w.heap[pp]? = some (.cells (prb R q).toArray 36 (0, 0))
  kx : w.heap[px]? = some (.cells (lrow FN lw AA).toArray 28 (0, 0))
  kt : w.heap[pt]? = some (.cells #[.int .i64 tol] 3 (0, 0))
  ks : w.heap[ps]? = some (.cells #[v] 22 (0, 0))
  kw : w.heap[pw]? = some (.cells #[fv] 71 (0, 0))
  ge : A.heap.size ≤ ps
  np : pp < ps
  nx : px < ps
  nt : pt < ps
  nw : ps < pw
section
variable {A w w' : World} {pp px pt ps pw : Nat} {fv : Value} {R : Bx} {q : Pq} {FN : St} {lw : Int} {AA : Bx} {tol : Int} {v : Value} {L : List Int}
theorem WM.below (M : WM A pp px pt ps pw fv R q FN lw AA tol w v L) (h : Below w.heap.size w w') : WM A pp px pt ps pw fv R q FN lw AA tol w' v L := by
  obtain ⟨be, ow, kp, kx, kt, ks, kw, ge, n1, n2, n3, n4⟩ := M
  exact ⟨Buf.then_ be h, Mis.own_below ow h, Mis.hb h kp, Mis.hb h kx, Mis.hb h kt, Mis.hb h ks, Mis.hb h kw, ge, n1, n2, n3, n4⟩
theorem WM.push (M : WM A pp px pt ps pw fv R q FN lw AA tol w v L) {v' : Value} {L' : List Int} (hg : w.grownBy w' v.ownBlock) (ho : w'.ownsRow (pw + 1) 3 1 v' L'.length (L'.map fun z => .int .i64 z)) :
    w'.heap[ps]? = some (.cells #[v] 22 (0, 0)) ∧ WM A pp px pt ps pw fv R q FN lw AA tol (w'.setCell ⟨ps, 0, none⟩ v') v' L' := by
  obtain ⟨be, ow, kp, kx, kt, ks, kw, ge, n1, n2, n3, n4⟩ := M
  have z := (Array.getElem?_eq_some_iff.1 kw).1
  have K : ∀ {b : Nat} {o : Obj}, b ≤ pw → w.heap[b]? = some o → w'.heap[b]? = some o := fun hb' ho' => (hg.block _ (by omega) (fun he => by have := (ow.lt _ he.symm).1; omega)).trans ho'
  have far : ∀ {b : Nat} {o : Obj}, b ≠ ps → w'.heap[b]? = some o → (w'.setCell ⟨ps, 0, none⟩ v').heap[b]? = some o := fun hb ho => (Below.heap_setCell w' ⟨ps, 0, none⟩ _ _ hb).trans ho
  have bw : Below A.heap.size A w' := be.grown hg (by have := be.size; omega) fun k hk => by have := (ow.lt k hk).1; omega
  exact ⟨K (by omega) ks, bw.setCell ge _, Mis.own_kept ho fun k hk => Below.heap_setCell w' ⟨ps, 0, none⟩ _ _ (by have := (ho.lt k hk).1; show k ≠ ps; omega), far (by omega) (K (by omega) kp), far (by omega) (K (by omega) kx), far (by omega) (K (by omega) kt), one_setCell (K (by omega) ks), far (by omega) (K (by omega) kw), ge, n1, n2, n3, n4⟩
end
def GV (pp px pt ps pw : Nat) : Value := .func (.func 29) #[] #[.pointer (some ⟨pp, 0, none⟩), .pointer (some ⟨px, 0, none⟩), .pointer (some ⟨pt, 0, none⟩), .pointer (some ⟨ps, 0, none⟩), .pointer (some ⟨pw, 0, none⟩)]
/-- Blocks of other types are as they were. -/
def FrW (w w' : World) : Prop := ∀ (b : Nat) (cs : Array Value) (t : TypeId), w.heap[b]? = some (.cells cs t (0, 0)) → t ≠ 3 → t ≠ 22 → w'.heap[b]? = some (.cells cs t (0, 0))
theorem FrW.below {w w' : World} (h : Below w.heap.size w w') : FrW w w' := fun b cs t hb _ _ => Mis.hb h hb
theorem FrW.trans {w w1 w2 : World} (h : FrW w w1) (k : FrW w1 w2) : FrW w w2 := fun b cs t hb h1 h2 => k b cs t (h b cs t hb h1 h2) h1 h2
theorem FrW.grow {w w' : World} {B n : Nat} {v : Value} {xs : List Value} (ow : w.ownsRow B 3 1 v n xs) (hg : w.grownBy w' v.ownBlock) : FrW w w' := fun b cs t hb h1 _ => by
  refine (hg.block b (Array.getElem?_eq_some_iff.1 hb).1 fun he => ?_).trans hb
  rcases ow.2 with ⟨_, e⟩ | ⟨g, cap, cur, rfl, _, h2, _⟩
  · rcases ow.2 with ⟨rfl, _⟩ | ⟨g, cap, cur, rfl, _, h2, _⟩
    · cases he
    · cases he
      rw [hb] at h2
      injection h2 with h2
      injection h2 with _ h3 _
      exact h1 h3
  · cases he
    rw [hb] at h2
    injection h2 with h2
    injection h2 with _ h3 _
    exact h1 h3
theorem FrW.set {w : World} {ps : Nat} {v u : Value} (h : w.heap[ps]? = some (.cells #[v] 22 (0, 0))) : FrW w (w.setCell ⟨ps, 0, none⟩ u) := fun b cs t hb _ h2 => by
  refine (Below.heap_setCell w ⟨ps, 0, none⟩ u b fun e => ?_).trans hb
  have e' : b = ps := e
  rw [e', h] at hb
  injection hb with hb
  injection hb with _ h3 _
  exact h2 h3.symm
theorem ints_snoc (L : List Int) (z : Int) : (L ++ [z]).map (fun z => Value.int .i64 z) = L.map (fun z => .int .i64 z) ++ [.int .i64 z] := by simp
section
variable {A : World} {Ak : Ask} {R : Bx} {q : Pq} {FN : St} {lw : Int} {AA : Bx} {tol : Int}
set_option maxHeartbeats 16000000 in
set_option maxRecDepth 100000 in
theorem write_any (P : Pr A Ak R q) (L0 : Lc Ak R FN lw AA) (t0 : 0 ≤ tol) (t9 : tol ≤ 1000000) (pp px pt ps pw : Nat) : ∀ (f : Nat) (B : Bx), Sb R B → np B ≤ (f : Int) → ∀ c, cert Ak (prv Ak FN.m lw AA tol) f B = some c → ∀ (L : List Int) (v : Value) (w : World), L.length + c.length ≤ 6000 →
    WM A pp px pt ps pw (GV pp px pt ps pw) R q FN lw AA tol w v L →
    Calls Try.prog 29 #[.agg (box6 B).toArray, .pointer (some ⟨pp, 0, none⟩), .pointer (some ⟨px, 0, none⟩), .pointer (some ⟨pt, 0, none⟩), .pointer (some ⟨ps, 0, none⟩), .pointer (some ⟨pw, 0, none⟩)] w
      fun e w' => e = .returned (.int .i64 0) ∧ ∃ v', WM A pp px pt ps pw (GV pp px pt ps pw) R q FN lw AA tol w' v' (L ++ c) ∧ FrW w w' := by
  obtain ⟨i0, hi0, hz0, hz1, hz2⟩ : ∃ i, Try.prog.info? 3 = some i ∧ i.zero = some (.int .i64 0) ∧ i.size = 1 ∧ i.bytes = 8 := ⟨_, rfl, by kernel_rfl, by kernel_rfl, by kernel_rfl⟩
  intro f
  induction f with
  | zero => intro B hB hn; exact absurd (np_pos hB) (by omega)
  | succ f ih =>
    intro B hB hn c hcert L v w hl M
    have N1 : Below w.heap.size w (w.alloc (.cells (box6 B).toArray 26)) := Mis.new_block _
    have K6 := Lib.hid (heap_alloc_new w (.cells (box6 B).toArray 26))
    have M1 := Lib.hid (M.below N1)
    have F1 := Lib.hid (FrW.below N1)
    obtain ⟨w1, hw1⟩ : ∃ z, z = w.alloc (.cells (box6 B).toArray 26) := ⟨_, rfl⟩
    rw [← hw1] at K6 M1 F1
    have hS := Lib.hid hB
    have HP := Lib.hid P
    have HL := Lib.hid L0
    have IH := Lib.hid ih
    have bvB := Lib.hid (P.bv B hB)
    have hl1 : L.length ≤ 5999 := by
      have : 1 ≤ c.length := by
        unfold cert at hcert
        split at hcert
        · cases hcert; simp
        · split at hcert
          · cases hcert
          · split at hcert
            · cases hcert; simp
            · cases hcert
      omega
    have hcert' : Hid (cert Ak (prv Ak FN.m lw AA tol) (f + 1) B = some c) := Lib.hid hcert
    clear M N1 hB P L0 ih hcert
    have PC := Lib.hid (proves_any HP.out M1.out.bel HL.out t0 t9 hS.out)
    go_enter Try.func29, Try.ntmps29
    go_upto_region 1 with fail
    rw [← hw1]
    obtain ⟨p6, hp6⟩ : ∃ z, z = w.heap.size := ⟨_, rfl⟩
    rw [← hp6] at K6 ⊢
    clear hw1 hp6
    have ct := cell_of_one M1.out.kt
    obtain ⟨pb, hpb⟩ : ∃ z, z = prv Ak FN.m lw AA tol B := ⟨_, rfl⟩
    rw [← hpb] at PC
    replace hpb := Lib.hid hpb
    go_upto_region 2 with (first | ((with_reducible refine Mid.ldr 36 (.tmp 1) pp 36 (prb R q).toArray M1.out.kp ?_ ?_ ?_ ?_ ?_ ?_); (· rfl); (· rfl); (· first | rfl | simp [Act.eval]); (· exact ⟨_, rfl, rfl⟩); (· kernel_rfl)) | ((with_reducible refine Mid.ldr 28 (.tmp 2) px 28 (lrow FN lw AA).toArray M1.out.kx ?_ ?_ ?_ ?_ ?_ ?_); (· rfl); (· rfl); (· first | rfl | simp [Act.eval]); (· exact ⟨_, rfl, rfl⟩); (· kernel_rfl)) | ((with_reducible refine Mid.ldr 26 (.tmp 6) p6 26 (box6 B).toArray K6.out ?_ ?_ ?_ ?_ ?_ ?_); (· rfl); (· rfl); (· first | rfl | simp [Act.eval]); (· exact ⟨_, rfl, rfl⟩); (· kernel_rfl)) | (go_at_call 30; refine PC.out.mono ?_; rintro e w2 ⟨rfl, b2⟩))
    have M2 := Lib.hid (M1.out.below b2)
    have K2 := Lib.hid (Mis.hb b2 K6.out)
    have F2 := Lib.hid (F1.out.trans (FrW.below b2))
    clear b2 PC ct M1 K6 F1
    obtain ⟨ad, nn, cc, rfl, hnn⟩ := Mis.own_letter M2.out.own
    have hn6 : nn ≤ 5999 := by rw [hnn.out]; exact hl1
    have e1 : ((nn : Int) == 6001) = false := by simp; omega
    have one0 : Hid (∀ u ∈ [Value.int .i64 0], u.oneCell' = true) := Lib.hid (by simp; rfl)
    have one1 : Hid (∀ u ∈ [Value.int .i64 1], u.oneCell' = true) := Lib.hid (by simp; rfl)
    have m1 : Hid (L.length + 1 ≤ maxLen) := Lib.hid (by unfold maxLen; omega)
    have m2 : Hid ((L.length + 1) * 8 ≤ 140737488355328) := Lib.hid (by omega)
    by_cases ho : one B = true
    · have hpt : pb = true := by
        have h := hcert'.out
        unfold cert at h
        rw [← hpb.out] at h
        cases hh : pb with
        | true => rfl
        | false => rw [hh, if_neg (by simp), if_pos ho] at h; cases h
      have hc0 : c = [0] := by
        have h := hcert'.out
        unfold cert at h
        rw [← hpb.out, hpt, if_pos rfl] at h
        cases h; rfl
      clear hpb hcert'
      subst hpt
      subst hc0
      have SN := Lib.hid fun w' => split_one ho bvB.out w'
      go_wp2_with ((with_reducible refine Mid.ldr 26 (.tmp 6) p6 26 (box6 B).toArray K2.out ?_ ?_ ?_ ?_ ?_ ?_); (· rfl); (· rfl); (· first | rfl | simp [Act.eval]); (· exact ⟨_, rfl, rfl⟩); (· kernel_rfl))
      refine (SN.out _).mono ?_
      rintro e w3 ⟨rfl, b3⟩
      have M3 := Lib.hid (M2.out.below b3)
      have F3 := Lib.hid (F2.out.trans (FrW.below b3))
      obtain ⟨Y5, Y6, N4, _, _⟩ := two_boxes w3 #[.int .i64 0, .int .i64 0, .int .i64 0, .int .i64 0, .int .i64 0, .int .i64 0] #[.int .i64 0, .int .i64 0, .int .i64 0, .int .i64 0, .int .i64 0, .int .i64 0]
      replace Y5 := Lib.hid Y5
      replace Y6 := Lib.hid Y6
      clear b3 SN
      go_upto_region 3 with (first | ((with_reducible refine Mid.str 26 (.tmp 9) (.tmp 21) w3.heap.size 26 #[.int .i64 0, .int .i64 0, .int .i64 0, .int .i64 0, .int .i64 0, .int .i64 0] #[.int .i64 0, .int .i64 0, .int .i64 0, .int .i64 0, .int .i64 0, .int .i64 0] Y5.out ?_ ?_ ?_ ?_ ?_ ?_ ?_ ?_); (· rfl); (· rfl); (· first | rfl | simp [Act.eval]); (· first | rfl | simp [Act.eval]); (· kernel_rfl); (· rfl); (· simp [box6, Value.oneCell'])) | ((with_reducible refine Mid.str 26 (.tmp 10) (.tmp 22) (w3.heap.size + 1) 26 #[.int .i64 0, .int .i64 0, .int .i64 0, .int .i64 0, .int .i64 0, .int .i64 0] #[.int .i64 0, .int .i64 0, .int .i64 0, .int .i64 0, .int .i64 0, .int .i64 0] Y6.out ?_ ?_ ?_ ?_ ?_ ?_ ?_ ?_); (· rfl); (· rfl); (· first | rfl | simp [Act.eval]); (· first | rfl | simp [Act.eval]); (· kernel_rfl); (· rfl); (· simp [box6, Value.oneCell'])))
      try simp only [Act.put]
      obtain ⟨w4, hw4⟩ : ∃ z, z = (((w3.alloc (.cells #[.int .i64 0, .int .i64 0, .int .i64 0, .int .i64 0, .int .i64 0, .int .i64 0] 26)).alloc (.cells #[.int .i64 0, .int .i64 0, .int .i64 0, .int .i64 0, .int .i64 0, .int .i64 0] 26)).setRow w3.heap.size #[.int .i64 0, .int .i64 0, .int .i64 0, .int .i64 0, .int .i64 0, .int .i64 0]).setRow (w3.heap.size + 1) #[.int .i64 0, .int .i64 0, .int .i64 0, .int .i64 0, .int .i64 0, .int .i64 0] := ⟨_, rfl⟩
      rw [← hw4] at N4 ⊢
      have M4 := Lib.hid (M3.out.below N4)
      have F4 := Lib.hid (F3.out.trans (FrW.below N4))
      have hsz : Hid (pw + 1 ≤ (w4.alloc (.cells #[.int .i64 0] 3)).heap.size) := Lib.hid (by have := (Array.getElem?_eq_some_iff.1 M4.out.kw).1; simp; omega)
      have c4 := cell_of_one M4.out.ks
      clear hw4 N4 Y5 Y6 M3 M2 K2 F2 F3
      go_wp2_with (at_builtin; (refine wpList_append_own _ rfl (.tmp 34) (.tmp 35) 22 rfl (pw + 1) 3 i0 (.int .i64 0) 1 8 Try.underlying22 hi0 hz0 hz1 hz2 rfl (by decide) _ L.length _ rfl (Mis.own_below M4.out.own (Mis.new_block _)) ⟨w4.heap.size, 0, none⟩ 1 1 [.int .i64 0] rfl rfl (World.news_of_block (heap_alloc_new w4 (.cells #[.int .i64 0] 3))) one0.out m1.out m2.out hsz.out ?_; intro v' w9 ho9 hg9 _; obtain ⟨ra, rm, rc, rfl, hrm⟩ := Mis.own_letter ho9; obtain ⟨K9, M9⟩ := WM.push (L' := L ++ [0]) (M4.out.below (Mis.new_block (.cells #[.int .i64 0] 3))) hg9 (by rw [ints_snoc]; simpa using ho9); have F9 := Lib.hid ((FrW.below (Mis.new_block (.cells #[.int .i64 0] 3))).trans ((FrW.grow (Mis.own_below M4.out.own (Mis.new_block _)) hg9).trans (FrW.set K9 (u := .slice ra rm rc)))); have c9 := cell_of_one K9; have f9 := free_of_one K9; replace M9 := Lib.hid M9; clear ho9 hg9 K9))
      go_ret
      exact ⟨rfl, _, M9.out, F4.out.trans F9.out⟩
    · have ho' : one B = false := by simpa using ho
      obtain ⟨B1, hB1⟩ : ∃ z, z = (Ak.S B).1 := ⟨_, rfl⟩
      obtain ⟨B2, hB2⟩ : ∃ z, z = (Ak.S B).2 := ⟨_, rfl⟩
      have SPL := HP.out.sp B hS.out ho'
      obtain ⟨t1, t2, n1, n2, _⟩ := halves HP.out.good hS.out ho' hn
      have hce := hcert'.out
      unfold cert at hce
      rw [← hpb.out] at hce
      rw [← hB1, ← hB2] at SPL hce
      rw [← hB1] at t1 n1
      rw [← hB2] at t2 n2
      replace SPL := Lib.hid SPL
      have IH1 := Lib.hid (IH.out B1 t1 n1)
      have IH2 := Lib.hid (IH.out B2 t2 n2)
      replace hce := Lib.hid hce
      clear IH hB1 hB2 t1 t2 n1 n2 hpb hcert'
      go_wp2_with ((with_reducible refine Mid.ldr 26 (.tmp 6) p6 26 (box6 B).toArray K2.out ?_ ?_ ?_ ?_ ?_ ?_); (· rfl); (· rfl); (· first | rfl | simp [Act.eval]); (· exact ⟨_, rfl, rfl⟩); (· kernel_rfl))
      refine (SPL.out _).mono ?_
      rintro e w3 ⟨rfl, b3⟩
      have M3 := Lib.hid (M2.out.below b3)
      have F3 := Lib.hid (F2.out.trans (FrW.below b3))
      obtain ⟨Y5, Y6, N4, K9, K10⟩ := two_boxes w3 (box6 B1).toArray (box6 B2).toArray
      replace Y5 := Lib.hid Y5
      replace Y6 := Lib.hid Y6
      clear b3 SPL
      go_upto_region 3 with (first | ((with_reducible refine Mid.str 26 (.tmp 9) (.tmp 21) w3.heap.size 26 #[.int .i64 0, .int .i64 0, .int .i64 0, .int .i64 0, .int .i64 0, .int .i64 0] (box6 B1).toArray Y5.out ?_ ?_ ?_ ?_ ?_ ?_ ?_ ?_); (· rfl); (· rfl); (· first | rfl | simp [Act.eval]); (· first | rfl | simp [Act.eval]); (· kernel_rfl); (· rfl); (· simp [box6, Value.oneCell'])) | ((with_reducible refine Mid.str 26 (.tmp 10) (.tmp 22) (w3.heap.size + 1) 26 #[.int .i64 0, .int .i64 0, .int .i64 0, .int .i64 0, .int .i64 0, .int .i64 0] (box6 B2).toArray Y6.out ?_ ?_ ?_ ?_ ?_ ?_ ?_ ?_); (· rfl); (· rfl); (· first | rfl | simp [Act.eval]); (· first | rfl | simp [Act.eval]); (· kernel_rfl); (· rfl); (· simp [box6, Value.oneCell'])))
      try simp only [Act.put]
      obtain ⟨w4, hw4⟩ : ∃ z, z = (((w3.alloc (.cells #[.int .i64 0, .int .i64 0, .int .i64 0, .int .i64 0, .int .i64 0, .int .i64 0] 26)).alloc (.cells #[.int .i64 0, .int .i64 0, .int .i64 0, .int .i64 0, .int .i64 0, .int .i64 0] 26)).setRow w3.heap.size (box6 B1).toArray).setRow (w3.heap.size + 1) (box6 B2).toArray := ⟨_, rfl⟩
      rw [← hw4] at N4 K9 K10 ⊢
      cases pb with
      | true =>
        have hc0 : c = [0] := by
          have h := hce.out
          rw [if_pos rfl] at h
          cases h; rfl
        subst hc0
        clear K9 K10
        have M4 := Lib.hid (M3.out.below N4)
        have F4 := Lib.hid (F3.out.trans (FrW.below N4))
        have hsz : Hid (pw + 1 ≤ (w4.alloc (.cells #[.int .i64 0] 3)).heap.size) := Lib.hid (by have := (Array.getElem?_eq_some_iff.1 M4.out.kw).1; simp; omega)
        have c4 := cell_of_one M4.out.ks
        clear hw4 N4 Y5 Y6 M3 M2 K2 F2 F3
        go_wp2_with (at_builtin; (refine wpList_append_own _ rfl (.tmp 34) (.tmp 35) 22 rfl (pw + 1) 3 i0 (.int .i64 0) 1 8 Try.underlying22 hi0 hz0 hz1 hz2 rfl (by decide) _ L.length _ rfl (Mis.own_below M4.out.own (Mis.new_block _)) ⟨w4.heap.size, 0, none⟩ 1 1 [.int .i64 0] rfl rfl (World.news_of_block (heap_alloc_new w4 (.cells #[.int .i64 0] 3))) one0.out m1.out m2.out hsz.out ?_; intro v' w9 ho9 hg9 _; obtain ⟨ra, rm, rc, rfl, hrm⟩ := Mis.own_letter ho9; obtain ⟨K9, M9⟩ := WM.push (L' := L ++ [0]) (M4.out.below (Mis.new_block (.cells #[.int .i64 0] 3))) hg9 (by rw [ints_snoc]; simpa using ho9); have F9 := Lib.hid ((FrW.below (Mis.new_block (.cells #[.int .i64 0] 3))).trans ((FrW.grow (Mis.own_below M4.out.own (Mis.new_block _)) hg9).trans (FrW.set K9 (u := .slice ra rm rc)))); have c9 := cell_of_one K9; have f9 := free_of_one K9; replace M9 := Lib.hid M9; clear ho9 hg9 K9))
        go_ret
        first | exact ⟨rfl, _, M9.out, F4.out.trans F9.out⟩ | exact ⟨rfl, ⟨_, M9.out⟩, F4.out.trans F9.out⟩
      | false =>
        obtain ⟨x, y, hx, hy, rfl⟩ : ∃ x y, cert Ak (prv Ak FN.m lw AA tol) f B1 = some x ∧ cert Ak (prv Ak FN.m lw AA tol) f B2 = some y ∧ c = 1 :: (x ++ y) := by
          have h := hce.out
          rw [if_neg (by simp), if_neg ho] at h
          cases e1 : cert Ak (prv Ak FN.m lw AA tol) f B1 with
          | none => rw [e1] at h; cases h
          | some x =>
            cases e2 : cert Ak (prv Ak FN.m lw AA tol) f B2 with
            | none => rw [e1, e2] at h; cases h
            | some y => rw [e1, e2] at h; cases h; exact ⟨x, y, rfl, rfl, rfl⟩
        have hlx : (L ++ [1]).length + x.length ≤ 6000 := by simp at hl ⊢; omega
        have hly : ((L ++ [1]) ++ x).length + y.length ≤ 6000 := by simp at hl ⊢; omega
        have M4 := Lib.hid (M3.out.below N4)
        have F4 := Lib.hid (F3.out.trans (FrW.below N4))
        obtain ⟨p9, hp9⟩ : ∃ z, z = w3.heap.size := ⟨_, rfl⟩
        obtain ⟨p10, hp10⟩ : ∃ z, z = w3.heap.size + 1 := ⟨_, rfl⟩
        rw [← hp10] at K10 ⊢
        rw [← hp9] at K9 ⊢
        replace K9 := Lib.hid K9
        replace K10 := Lib.hid K10
        have hsz : Hid (pw + 1 ≤ (w4.alloc (.cells #[.int .i64 1] 3)).heap.size) := Lib.hid (by have := (Array.getElem?_eq_some_iff.1 M4.out.kw).1; simp; omega)
        have c4 := cell_of_one M4.out.ks
        clear hw4 hp9 hp10 N4 Y5 Y6 M3 M2 K2 F2 F3 hce
        have KB1 := K9
        have KB2 := K10
        clear K9 K10
        go_upto_region 11 with (at_builtin; (refine wpList_append_own _ rfl (.tmp 37) (.tmp 38) 22 rfl (pw + 1) 3 i0 (.int .i64 0) 1 8 Try.underlying22 hi0 hz0 hz1 hz2 rfl (by decide) _ L.length _ rfl (Mis.own_below M4.out.own (Mis.new_block _)) ⟨w4.heap.size, 0, none⟩ 1 1 [.int .i64 1] rfl rfl (World.news_of_block (heap_alloc_new w4 (.cells #[.int .i64 1] 3))) one1.out m1.out m2.out hsz.out ?_; intro v' w9 ho9 hg9 _; obtain ⟨ra, rm, rc, rfl, hrm⟩ := Mis.own_letter ho9; obtain ⟨K9, M9⟩ := WM.push (L' := L ++ [1]) (M4.out.below (Mis.new_block (.cells #[.int .i64 1] 3))) hg9 (by rw [ints_snoc]; simpa using ho9); have F9 := Lib.hid ((FrW.below (Mis.new_block (.cells #[.int .i64 1] 3))).trans ((FrW.grow (Mis.own_below M4.out.own (Mis.new_block _)) hg9).trans (FrW.set K9 (u := .slice ra rm rc)))); have c9 := cell_of_one K9; have f9 := free_of_one K9; replace M9 := Lib.hid M9; clear ho9 hg9 K9))
        obtain ⟨w5, hw5⟩ : ∃ z, z = w9.setCell ⟨ps, 0, none⟩ (.slice ra rm rc) := ⟨_, rfl⟩
        rw [← hw5] at M9 F9 ⊢
        have KC1 := Lib.hid (F9.out _ _ _ KB1.out (by decide) (by decide))
        have KC2 := Lib.hid (F9.out _ _ _ KB2.out (by decide) (by decide))
        have F5 := Lib.hid (F4.out.trans F9.out)
        have C1 := Lib.hid (IH1.out x hx (L ++ [1]) (.slice ra rm rc) w5 hlx M9.out)
        have cw := cell_of_one M9.out.kw
        unfold GV at cw
        clear hw5 c9 f9 c4 KB1 KB2 F4 F9 M4
        go_wp2_with (first | ((with_reducible refine Mid.ldr 26 (.tmp 9) p9 26 (box6 B1).toArray KC1.out ?_ ?_ ?_ ?_ ?_ ?_); (· rfl); (· rfl); (· first | rfl | simp [Act.eval]); (· exact ⟨_, rfl, rfl⟩); (· kernel_rfl)) | fail)
        refine C1.out.mono ?_
        rintro e w6 ⟨rfl, v6, M6, F6⟩
        have KD2 := Lib.hid (F6 _ _ _ KC2.out (by decide) (by decide))
        have C2 := Lib.hid (IH2.out y hy ((L ++ [1]) ++ x) v6 w6 hly M6)
        have cw2 := cell_of_one M6.kw
        unfold GV at cw2
        replace F6 := Lib.hid (F5.out.trans F6)
        clear M6 cw C1 KC1 KC2 F5 M9
        go_wp2_with (first | ((with_reducible refine Mid.ldr 26 (.tmp 10) p10 26 (box6 B2).toArray KD2.out ?_ ?_ ?_ ?_ ?_ ?_); (· rfl); (· rfl); (· first | rfl | simp [Act.eval]); (· exact ⟨_, rfl, rfl⟩); (· kernel_rfl)) | fail)
        refine C2.out.mono ?_
        rintro e w7 ⟨rfl, v7, M7, F7⟩
        have hap : ((L ++ [1]) ++ x) ++ y = L ++ 1 :: (x ++ y) := by simp
        rw [hap] at M7
        have M7h := Lib.hid M7
        have F7h := Lib.hid (F6.out.trans F7)
        clear M7 F7 C2 cw2
        go_wp2_with fail
        go_ret
        exact ⟨rfl, v7, M7h.out, F7h.out⟩
set_option maxHeartbeats 16000000 in
set_option maxRecDepth 100000 in
theorem write_none (P : Pr A Ak R q) (L0 : Lc Ak R FN lw AA) (t0 : 0 ≤ tol) (t9 : tol ≤ 1000000) (pp px pt ps pw : Nat) : ∀ (f : Nat) (B : Bx), Sb R B → np B ≤ (f : Int) → cert Ak (prv Ak FN.m lw AA tol) f B = none → ∀ (L : List Int) (v : Value) (w : World), (L.length : Int) + (2 * np B - 1) ≤ 6000 →
    WM A pp px pt ps pw (GV pp px pt ps pw) R q FN lw AA tol w v L →
    Calls Try.prog 29 #[.agg (box6 B).toArray, .pointer (some ⟨pp, 0, none⟩), .pointer (some ⟨px, 0, none⟩), .pointer (some ⟨pt, 0, none⟩), .pointer (some ⟨ps, 0, none⟩), .pointer (some ⟨pw, 0, none⟩)] w
      fun e w' => e = .returned (.int .i64 26) ∧ Below A.heap.size A w' := by
  obtain ⟨i0, hi0, hz0, hz1, hz2⟩ : ∃ i, Try.prog.info? 3 = some i ∧ i.zero = some (.int .i64 0) ∧ i.size = 1 ∧ i.bytes = 8 := ⟨_, rfl, by kernel_rfl, by kernel_rfl, by kernel_rfl⟩
  intro f
  induction f with
  | zero => intro B hB hn; exact absurd (np_pos hB) (by omega)
  | succ f ih =>
    intro B hB hn hcert L v w hl M
    have N1 : Below w.heap.size w (w.alloc (.cells (box6 B).toArray 26)) := Mis.new_block _
    have K6 := Lib.hid (heap_alloc_new w (.cells (box6 B).toArray 26))
    have M1 := Lib.hid (M.below N1)
    have F1 := Lib.hid (FrW.below N1)
    obtain ⟨w1, hw1⟩ : ∃ z, z = w.alloc (.cells (box6 B).toArray 26) := ⟨_, rfl⟩
    rw [← hw1] at K6 M1 F1
    have hS := Lib.hid hB
    have HP := Lib.hid P
    have HL := Lib.hid L0
    have IH := Lib.hid ih
    have bvB := Lib.hid (P.bv B hB)
    have hnp := np_pos hB
    have hl1 : L.length ≤ 5999 := by omega
    have hcert' : Hid (cert Ak (prv Ak FN.m lw AA tol) (f + 1) B = none) := Lib.hid hcert
    clear M N1 hB P L0 ih hcert
    have PC := Lib.hid (proves_any HP.out M1.out.bel HL.out t0 t9 hS.out)
    go_enter Try.func29, Try.ntmps29
    go_upto_region 1 with fail
    rw [← hw1]
    obtain ⟨p6, hp6⟩ : ∃ z, z = w.heap.size := ⟨_, rfl⟩
    rw [← hp6] at K6 ⊢
    clear hw1 hp6
    have ct := cell_of_one M1.out.kt
    obtain ⟨pb, hpb⟩ : ∃ z, z = prv Ak FN.m lw AA tol B := ⟨_, rfl⟩
    rw [← hpb] at PC
    replace hpb := Lib.hid hpb
    go_upto_region 2 with (first | ((with_reducible refine Mid.ldr 36 (.tmp 1) pp 36 (prb R q).toArray M1.out.kp ?_ ?_ ?_ ?_ ?_ ?_); (· rfl); (· rfl); (· first | rfl | simp [Act.eval]); (· exact ⟨_, rfl, rfl⟩); (· kernel_rfl)) | ((with_reducible refine Mid.ldr 28 (.tmp 2) px 28 (lrow FN lw AA).toArray M1.out.kx ?_ ?_ ?_ ?_ ?_ ?_); (· rfl); (· rfl); (· first | rfl | simp [Act.eval]); (· exact ⟨_, rfl, rfl⟩); (· kernel_rfl)) | ((with_reducible refine Mid.ldr 26 (.tmp 6) p6 26 (box6 B).toArray K6.out ?_ ?_ ?_ ?_ ?_ ?_); (· rfl); (· rfl); (· first | rfl | simp [Act.eval]); (· exact ⟨_, rfl, rfl⟩); (· kernel_rfl)) | (go_at_call 30; refine PC.out.mono ?_; rintro e w2 ⟨rfl, b2⟩))
    have M2 := Lib.hid (M1.out.below b2)
    have K2 := Lib.hid (Mis.hb b2 K6.out)
    have F2 := Lib.hid (F1.out.trans (FrW.below b2))
    clear b2 PC ct M1 K6 F1
    obtain ⟨ad, nn, cc, rfl, hnn⟩ := Mis.own_letter M2.out.own
    have hn6 : nn ≤ 5999 := by rw [hnn.out]; exact hl1
    have e1 : ((nn : Int) == 6001) = false := by simp; omega
    have one0 : Hid (∀ u ∈ [Value.int .i64 0], u.oneCell' = true) := Lib.hid (by simp; rfl)
    have one1 : Hid (∀ u ∈ [Value.int .i64 1], u.oneCell' = true) := Lib.hid (by simp; rfl)
    have m1 : Hid (L.length + 1 ≤ maxLen) := Lib.hid (by unfold maxLen; omega)
    have m2 : Hid ((L.length + 1) * 8 ≤ 140737488355328) := Lib.hid (by omega)
    by_cases ho : one B = true
    · have hpt : pb = false := by
        have h := hcert'.out
        unfold cert at h
        rw [← hpb.out] at h
        cases hh : pb with
        | false => rfl
        | true => rw [hh, if_pos rfl] at h; cases h
      clear hpb hcert'
      subst hpt
      have SN := Lib.hid fun w' => split_one ho bvB.out w'
      go_wp2_with ((with_reducible refine Mid.ldr 26 (.tmp 6) p6 26 (box6 B).toArray K2.out ?_ ?_ ?_ ?_ ?_ ?_); (· rfl); (· rfl); (· first | rfl | simp [Act.eval]); (· exact ⟨_, rfl, rfl⟩); (· kernel_rfl))
      refine (SN.out _).mono ?_
      rintro e w3 ⟨rfl, b3⟩
      have M3 := Lib.hid (M2.out.below b3)
      have F3 := Lib.hid (F2.out.trans (FrW.below b3))
      obtain ⟨Y5, Y6, N4, _, _⟩ := two_boxes w3 #[.int .i64 0, .int .i64 0, .int .i64 0, .int .i64 0, .int .i64 0, .int .i64 0] #[.int .i64 0, .int .i64 0, .int .i64 0, .int .i64 0, .int .i64 0, .int .i64 0]
      replace Y5 := Lib.hid Y5
      replace Y6 := Lib.hid Y6
      clear b3 SN
      go_upto_region 3 with (first | ((with_reducible refine Mid.str 26 (.tmp 9) (.tmp 21) w3.heap.size 26 #[.int .i64 0, .int .i64 0, .int .i64 0, .int .i64 0, .int .i64 0, .int .i64 0] #[.int .i64 0, .int .i64 0, .int .i64 0, .int .i64 0, .int .i64 0, .int .i64 0] Y5.out ?_ ?_ ?_ ?_ ?_ ?_ ?_ ?_); (· rfl); (· rfl); (· first | rfl | simp [Act.eval]); (· first | rfl | simp [Act.eval]); (· kernel_rfl); (· rfl); (· simp [box6, Value.oneCell'])) | ((with_reducible refine Mid.str 26 (.tmp 10) (.tmp 22) (w3.heap.size + 1) 26 #[.int .i64 0, .int .i64 0, .int .i64 0, .int .i64 0, .int .i64 0, .int .i64 0] #[.int .i64 0, .int .i64 0, .int .i64 0, .int .i64 0, .int .i64 0, .int .i64 0] Y6.out ?_ ?_ ?_ ?_ ?_ ?_ ?_ ?_); (· rfl); (· rfl); (· first | rfl | simp [Act.eval]); (· first | rfl | simp [Act.eval]); (· kernel_rfl); (· rfl); (· simp [box6, Value.oneCell'])))
      try simp only [Act.put]
      obtain ⟨w4, hw4⟩ : ∃ z, z = (((w3.alloc (.cells #[.int .i64 0, .int .i64 0, .int .i64 0, .int .i64 0, .int .i64 0, .int .i64 0] 26)).alloc (.cells #[.int .i64 0, .int .i64 0, .int .i64 0, .int .i64 0, .int .i64 0, .int .i64 0] 26)).setRow w3.heap.size #[.int .i64 0, .int .i64 0, .int .i64 0, .int .i64 0, .int .i64 0, .int .i64 0]).setRow (w3.heap.size + 1) #[.int .i64 0, .int .i64 0, .int .i64 0, .int .i64 0, .int .i64 0, .int .i64 0] := ⟨_, rfl⟩
      rw [← hw4] at N4 ⊢
      have M4 := Lib.hid (M3.out.below N4)
      have F4 := Lib.hid (F3.out.trans (FrW.below N4))
      clear hw4 N4 Y5 Y6 M3 M2 K2 F2 F3
      go_wp2_with fail
      go_ret
      exact ⟨rfl, M4.out.bel⟩
    · have ho' : one B = false := by simpa using ho
      obtain ⟨B1, hB1⟩ : ∃ z, z = (Ak.S B).1 := ⟨_, rfl⟩
      obtain ⟨B2, hB2⟩ : ∃ z, z = (Ak.S B).2 := ⟨_, rfl⟩
      have SPL := HP.out.sp B hS.out ho'
      obtain ⟨t1, t2, n1, n2, n3⟩ := halves HP.out.good hS.out ho' hn
      have hce := hcert'.out
      unfold cert at hce
      rw [← hpb.out] at hce
      rw [← hB1, ← hB2] at SPL hce
      rw [← hB1] at t1 n1
      rw [← hB2] at t2 n2
      replace SPL := Lib.hid SPL
      rw [← hB1, ← hB2] at n3
      have np1' := np_pos t1
      have np2' := np_pos t2
      have IH1 := Lib.hid (IH.out B1 t1 n1)
      have IH2 := Lib.hid (IH.out B2 t2 n2)
      have WR1 := Lib.hid (write_any HP.out HL.out t0 t9 pp px pt ps pw f B1 t1 n1)
      have CL1 := Lib.hid (cert_len (pv := prv Ak FN.m lw AA tol) HP.out.good f B1 t1 n1)
      replace hce := Lib.hid hce
      clear IH hB1 hB2 t1 t2 n1 n2 hpb hcert'
      go_wp2_with ((with_reducible refine Mid.ldr 26 (.tmp 6) p6 26 (box6 B).toArray K2.out ?_ ?_ ?_ ?_ ?_ ?_); (· rfl); (· rfl); (· first | rfl | simp [Act.eval]); (· exact ⟨_, rfl, rfl⟩); (· kernel_rfl))
      refine (SPL.out _).mono ?_
      rintro e w3 ⟨rfl, b3⟩
      have M3 := Lib.hid (M2.out.below b3)
      have F3 := Lib.hid (F2.out.trans (FrW.below b3))
      obtain ⟨Y5, Y6, N4, K9, K10⟩ := two_boxes w3 (box6 B1).toArray (box6 B2).toArray
      replace Y5 := Lib.hid Y5
      replace Y6 := Lib.hid Y6
      clear b3 SPL
      go_upto_region 3 with (first | ((with_reducible refine Mid.str 26 (.tmp 9) (.tmp 21) w3.heap.size 26 #[.int .i64 0, .int .i64 0, .int .i64 0, .int .i64 0, .int .i64 0, .int .i64 0] (box6 B1).toArray Y5.out ?_ ?_ ?_ ?_ ?_ ?_ ?_ ?_); (· rfl); (· rfl); (· first | rfl | simp [Act.eval]); (· first | rfl | simp [Act.eval]); (· kernel_rfl); (· rfl); (· simp [box6, Value.oneCell'])) | ((with_reducible refine Mid.str 26 (.tmp 10) (.tmp 22) (w3.heap.size + 1) 26 #[.int .i64 0, .int .i64 0, .int .i64 0, .int .i64 0, .int .i64 0, .int .i64 0] (box6 B2).toArray Y6.out ?_ ?_ ?_ ?_ ?_ ?_ ?_ ?_); (· rfl); (· rfl); (· first | rfl | simp [Act.eval]); (· first | rfl | simp [Act.eval]); (· kernel_rfl); (· rfl); (· simp [box6, Value.oneCell'])))
      try simp only [Act.put]
      obtain ⟨w4, hw4⟩ : ∃ z, z = (((w3.alloc (.cells #[.int .i64 0, .int .i64 0, .int .i64 0, .int .i64 0, .int .i64 0, .int .i64 0] 26)).alloc (.cells #[.int .i64 0, .int .i64 0, .int .i64 0, .int .i64 0, .int .i64 0, .int .i64 0] 26)).setRow w3.heap.size (box6 B1).toArray).setRow (w3.heap.size + 1) (box6 B2).toArray := ⟨_, rfl⟩
      rw [← hw4] at N4 K9 K10 ⊢
      cases pb with
      | true =>
        have h := hce.out
        rw [if_pos rfl] at h
        cases h
      | false =>
        have hor : Hid (cert Ak (prv Ak FN.m lw AA tol) f B1 = none ∨ ∃ x, cert Ak (prv Ak FN.m lw AA tol) f B1 = some x ∧ cert Ak (prv Ak FN.m lw AA tol) f B2 = none) := Lib.hid (by
          have h := hce.out
          rw [if_neg (by simp), if_neg ho] at h
          cases e1 : cert Ak (prv Ak FN.m lw AA tol) f B1 with
          | none => exact .inl rfl
          | some x =>
            cases e2 : cert Ak (prv Ak FN.m lw AA tol) f B2 with
            | none => exact .inr ⟨x, rfl, rfl⟩
            | some y => rw [e1, e2] at h; cases h)
        have hl2 : ((L ++ [1]).length : Int) + (2 * np B1 - 1) ≤ 6000 := by simp; omega
        have hl3 : Hid (∀ x : List Int, (x.length : Int) ≤ 2 * np B1 - 1 → (((L ++ [1]) ++ x).length : Int) + (2 * np B2 - 1) ≤ 6000 ∧ (L ++ [1]).length + x.length ≤ 6000) := Lib.hid fun x hx => by simp at hx ⊢; omega
        have M4 := Lib.hid (M3.out.below N4)
        have F4 := Lib.hid (F3.out.trans (FrW.below N4))
        obtain ⟨p9, hp9⟩ : ∃ z, z = w3.heap.size := ⟨_, rfl⟩
        obtain ⟨p10, hp10⟩ : ∃ z, z = w3.heap.size + 1 := ⟨_, rfl⟩
        rw [← hp10] at K10 ⊢
        rw [← hp9] at K9 ⊢
        replace K9 := Lib.hid K9
        replace K10 := Lib.hid K10
        have hsz : Hid (pw + 1 ≤ (w4.alloc (.cells #[.int .i64 1] 3)).heap.size) := Lib.hid (by have := (Array.getElem?_eq_some_iff.1 M4.out.kw).1; simp; omega)
        have c4 := cell_of_one M4.out.ks
        clear hw4 hp9 hp10 N4 Y5 Y6 M3 M2 K2 F2 F3 hce
        have KB1 := K9
        have KB2 := K10
        clear K9 K10
        go_upto_region 11 with (at_builtin; (refine wpList_append_own _ rfl (.tmp 37) (.tmp 38) 22 rfl (pw + 1) 3 i0 (.int .i64 0) 1 8 Try.underlying22 hi0 hz0 hz1 hz2 rfl (by decide) _ L.length _ rfl (Mis.own_below M4.out.own (Mis.new_block _)) ⟨w4.heap.size, 0, none⟩ 1 1 [.int .i64 1] rfl rfl (World.news_of_block (heap_alloc_new w4 (.cells #[.int .i64 1] 3))) one1.out m1.out m2.out hsz.out ?_; intro v' w9 ho9 hg9 _; obtain ⟨ra, rm, rc, rfl, hrm⟩ := Mis.own_letter ho9; obtain ⟨K9, M9⟩ := WM.push (L' := L ++ [1]) (M4.out.below (Mis.new_block (.cells #[.int .i64 1] 3))) hg9 (by rw [ints_snoc]; simpa using ho9); have F9 := Lib.hid ((FrW.below (Mis.new_block (.cells #[.int .i64 1] 3))).trans ((FrW.grow (Mis.own_below M4.out.own (Mis.new_block _)) hg9).trans (FrW.set K9 (u := .slice ra rm rc)))); have c9 := cell_of_one K9; have f9 := free_of_one K9; replace M9 := Lib.hid M9; clear ho9 hg9 K9))
        obtain ⟨w5, hw5⟩ : ∃ z, z = w9.setCell ⟨ps, 0, none⟩ (.slice ra rm rc) := ⟨_, rfl⟩
        rw [← hw5] at M9 F9 ⊢
        have KC1 := Lib.hid (F9.out _ _ _ KB1.out (by decide) (by decide))
        have KC2 := Lib.hid (F9.out _ _ _ KB2.out (by decide) (by decide))
        have F5 := Lib.hid (F4.out.trans F9.out)
        have cw := cell_of_one M9.out.kw
        unfold GV at cw
        clear hw5 c9 f9 c4 KB1 KB2 F4 F9 M4
        rcases hor.out with hx | ⟨x, hx, hy⟩
        · have C1 := Lib.hid (IH1.out hx (L ++ [1]) (.slice ra rm rc) w5 hl2 M9.out)
          clear hor
          go_wp2_with (first | ((with_reducible refine Mid.ldr 26 (.tmp 9) p9 26 (box6 B1).toArray KC1.out ?_ ?_ ?_ ?_ ?_ ?_); (· rfl); (· rfl); (· first | rfl | simp [Act.eval]); (· exact ⟨_, rfl, rfl⟩); (· kernel_rfl)) | fail)
          refine C1.out.mono ?_
          rintro e w6 ⟨rfl, b6⟩
          have B6 := Lib.hid b6
          clear b6 C1
          go_wp2_with fail
          go_ret
          exact ⟨rfl, B6.out⟩
        · obtain ⟨h31, h32⟩ := hl3.out x (CL1.out x hx)
          have C1 := Lib.hid (WR1.out x hx (L ++ [1]) (.slice ra rm rc) w5 h32 M9.out)
          clear hor
          go_wp2_with (first | ((with_reducible refine Mid.ldr 26 (.tmp 9) p9 26 (box6 B1).toArray KC1.out ?_ ?_ ?_ ?_ ?_ ?_); (· rfl); (· rfl); (· first | rfl | simp [Act.eval]); (· exact ⟨_, rfl, rfl⟩); (· kernel_rfl)) | fail)
          refine C1.out.mono ?_
          rintro e w6 ⟨rfl, v6, M6, F6⟩
          have KD2 := Lib.hid (F6 _ _ _ KC2.out (by decide) (by decide))
          have C2 := Lib.hid (IH2.out hy ((L ++ [1]) ++ x) v6 w6 h31 M6)
          have cw2 := cell_of_one M6.kw
          unfold GV at cw2
          clear M6 F6 cw C1 KC1 KC2 F5 M9 h31 h32
          go_wp2_with (first | ((with_reducible refine Mid.ldr 26 (.tmp 10) p10 26 (box6 B2).toArray KD2.out ?_ ?_ ?_ ?_ ?_ ?_); (· rfl); (· rfl); (· first | rfl | simp [Act.eval]); (· exact ⟨_, rfl, rfl⟩); (· kernel_rfl)) | fail)
          refine C2.out.mono ?_
          rintro e w7 ⟨rfl, b7⟩
          have B7 := Lib.hid b7
          clear b7 C2 cw2
          go_wp2_with fail
          go_ret
          exact ⟨rfl, B7.out⟩
end
end Prf
end Loc
end Go.Proofs.Ytldgihlhioeipaa
