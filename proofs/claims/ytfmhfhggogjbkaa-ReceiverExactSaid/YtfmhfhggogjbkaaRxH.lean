/- Receivers of any lists: what each function answers, as a relation that has one answer. -/
import Derived.Test.YtfmhfhggogjbkaaRxGI
import Derived.Test.YtfmhfhggogjbkaaRxL
import Derived.Test.YtfmhfhggogjbkaaRxE
import Derived.Test.YtfmhfhggogjbkaaRxAD
import Derived.Test.YtfmhfhggogjbkaaRxFV
import Derived.Test.YtfmhfhggogjbkaaRfR
import Derived.Test.YtfmhfhggogjbkaaItS
set_option linter.unusedVariables false
set_option linter.unusedSimpArgs false
namespace Go.Proofs.Ytfmhfhggogjbkaa
open Go.RowKit Dice Wi
namespace Rx
open Spn
open Sp (cells2 cells2_snoc cells2_get Spans own_kept own_below own_mono own_shape)
theorem firstL_in {lo hi : Int} : ∀ {M : LP} (_ : ∀ p ∈ M, lo ≤ p.1 ∧ p.2 ≤ hi) (_ : ∀ p ∈ M, p.1 < p.2) (n : Int), Inside (firstL M n) lo hi
  | [], _, _, n => by intro p hp; simp [firstL] at hp
  | q :: t, h, o, n => by
    intro p hp
    unfold firstL at hp
    split at hp
    · cases hp
    · split at hp
      · simp at hp
        subst hp
        have := h q (by simp)
        have := o q (by simp)
        dsimp only
        omega
      · rcases List.mem_cons.1 hp with rfl | hp
        · exact h _ (by simp)
        · exact firstL_in (fun r hr => h r (by simp [hr])) (fun r hr => o r (by simp [hr])) _ p hp
noncomputable def okB (G L : LP) : Bool := @decide (OkR G L) (Classical.propDecidable _)
theorem okB_yes {G L : LP} (h : OkR G L) : okB G L = true := by unfold okB; simp [h]
theorem okB_no {G L : LP} (h : ¬ OkR G L) : okB G L = false := by unfold okB; simp [h]
/-- Accept. -/
structure AccR (G L : LP) (q : Int) (G' L' : LP) (b : Bool) (er : Int) : Prop where
  inv : ¬ OkR G L → G' = [] ∧ L' = [] ∧ b = false ∧ er = 1
  rng : OkR G L → (q < 0 ∨ 1073741824 < q) → G' = [] ∧ L' = [] ∧ b = false ∧ er = 2
  ok : OkR G L → 0 ≤ q → q ≤ 1073741824 → Is G' (fun x => hasB G x || decide (x = q)) ∧ Is L' (fun x => hasB L x && !decide (x = q)) ∧ b = !(hasB G q) ∧ er = 0
theorem AccR.unique {G L G1 L1 G2 L2 : LP} {q : Int} {b1 b2 : Bool} {e1 e2 : Int} (h : AccR G L q G1 L1 b1 e1) (k : AccR G L q G2 L2 b2 e2) : G1 = G2 ∧ L1 = L2 ∧ b1 = b2 ∧ e1 = e2 := by
  by_cases c : OkR G L
  · by_cases r : q < 0 ∨ 1073741824 < q
    · obtain ⟨a1, a2, a3, a4⟩ := h.rng c r
      obtain ⟨b1, b2, b3, b4⟩ := k.rng c r
      subst a1 a2 a3 a4 b1 b2 b3 b4
      exact ⟨rfl, rfl, rfl, rfl⟩
    · obtain ⟨a1, a2, a3, a4⟩ := h.ok c (by omega) (by omega)
      obtain ⟨b1, b2, b3, b4⟩ := k.ok c (by omega) (by omega)
      exact ⟨a1.unique b1, a2.unique b2, a3.trans b3.symm, a4.trans b4.symm⟩
  · obtain ⟨a1, a2, a3, a4⟩ := h.inv c
    obtain ⟨b1, b2, b3, b4⟩ := k.inv c
    subst a1 a2 a3 a4 b1 b2 b3 b4
    exact ⟨rfl, rfl, rfl, rfl⟩
/-- Lose. -/
structure LosR (G L : LP) (q : Int) (G' L' : LP) (er : Int) : Prop where
  inv : ¬ OkR G L → G' = [] ∧ L' = [] ∧ er = 1
  rng : OkR G L → (q < 0 ∨ 1073741825 < q) → G' = [] ∧ L' = [] ∧ er = 2
  ok : OkR G L → 0 ≤ q → q ≤ 1073741825 → Is G' (hasB G) ∧ Is L' (fun x => hasB L x || (decide (0 ≤ x ∧ x < q) && !hasB G x)) ∧ er = 0
theorem LosR.unique {G L G1 L1 G2 L2 : LP} {q : Int} {e1 e2 : Int} (h : LosR G L q G1 L1 e1) (k : LosR G L q G2 L2 e2) : G1 = G2 ∧ L1 = L2 ∧ e1 = e2 := by
  by_cases c : OkR G L
  · by_cases r : q < 0 ∨ 1073741825 < q
    · obtain ⟨a1, a2, a4⟩ := h.rng c r
      obtain ⟨b1, b2, b4⟩ := k.rng c r
      subst a1 a2 a4 b1 b2 b4
      exact ⟨rfl, rfl, rfl⟩
    · obtain ⟨a1, a2, a4⟩ := h.ok c (by omega) (by omega)
      obtain ⟨b1, b2, b4⟩ := k.ok c (by omega) (by omega)
      exact ⟨a1.unique b1, a2.unique b2, a4.trans b4.symm⟩
  · obtain ⟨a1, a2, a4⟩ := h.inv c
    obtain ⟨b1, b2, b4⟩ := k.inv c
    subst a1 a2 a4 b1 b2 b4
    exact ⟨rfl, rfl, rfl⟩
/-- Missing. -/
structure MisS (G L : LP) (q : Int) (N : LP) (er : Int) : Prop where
  inv : ¬ OkR G L → N = [] ∧ er = 1
  rng : OkR G L → (q < 0 ∨ 1073741825 < q) → N = [] ∧ er = 2
  ok : OkR G L → 0 ≤ q → q ≤ 1073741825 → (∃ t, TopP (hasB G) (hasB L) q t ∧ Is N (fun x => decide (0 ≤ x ∧ x < t) && !(hasB G x || hasB L x))) ∧ er = 0
theorem MisS.unique {G L N1 N2 : LP} {q : Int} {e1 e2 : Int} (h : MisS G L q N1 e1) (k : MisS G L q N2 e2) : N1 = N2 ∧ e1 = e2 := by
  by_cases c : OkR G L
  · by_cases r : q < 0 ∨ 1073741825 < q
    · obtain ⟨a1, a4⟩ := h.rng c r
      obtain ⟨b1, b4⟩ := k.rng c r
      subst a1 a4 b1 b4
      exact ⟨rfl, rfl⟩
    · obtain ⟨⟨t1, a1, a2⟩, a4⟩ := h.ok c (by omega) (by omega)
      obtain ⟨⟨t2, b1, b2⟩, b4⟩ := k.ok c (by omega) (by omega)
      obtain rfl := top_unique a1 b1
      exact ⟨a2.unique b2, a4.trans b4.symm⟩
  · obtain ⟨a1, a4⟩ := h.inv c
    obtain ⟨b1, b4⟩ := k.inv c
    subst a1 a4 b1 b4
    exact ⟨rfl, rfl⟩
/-- Request. -/
def ReqS (G L : LP) (q n : Int) (N : LP) (er : Int) : Prop := ∃ M e1, MisS G L q M e1 ∧ (e1 ≠ 0 → N = [] ∧ er = e1) ∧ (e1 = 0 → (n < 0 ∨ 256 < n) → N = [] ∧ er = 2) ∧ (e1 = 0 → 0 ≤ n → n ≤ 256 → N = firstL M n ∧ er = 0)
theorem ReqS.unique {G L N1 N2 : LP} {q n : Int} {e1 e2 : Int} (h : ReqS G L q n N1 e1) (k : ReqS G L q n N2 e2) : N1 = N2 ∧ e1 = e2 := by
  obtain ⟨M, x, h0, h1, h2, h3⟩ := h
  obtain ⟨M', x', k0, k1, k2, k3⟩ := k
  obtain ⟨rfl, rfl⟩ := h0.unique k0
  by_cases c : x = 0
  · by_cases r : n < 0 ∨ 256 < n
    · obtain ⟨a1, a4⟩ := h2 c r
      obtain ⟨b1, b4⟩ := k2 c r
      subst a1 a4 b1 b4
      exact ⟨rfl, rfl⟩
    · obtain ⟨a1, a4⟩ := h3 c (by omega) (by omega)
      obtain ⟨b1, b4⟩ := k3 c (by omega) (by omega)
      subst a1 a4 b1 b4
      exact ⟨rfl, rfl⟩
  · obtain ⟨a1, a4⟩ := h1 c
    obtain ⟨b1, b4⟩ := k1 c
    subst a1 a4 b1 b4
    exact ⟨rfl, rfl⟩
/-- High and Settled. -/
def HiS (G L : LP) (t : Int) : Prop := (¬ OkR G L → t = 0) ∧ (OkR G L → HighP (hasB G) (hasB L) t)
theorem HiS.unique {G L : LP} {t s : Int} (h : HiS G L t) (k : HiS G L s) : t = s := by
  by_cases c : OkR G L
  · exact (h.2 c).unique (k.2 c)
  · rw [h.1 c, k.1 c]
def StS (G L : LP) (t : Int) : Prop := (¬ OkR G L → t = 0) ∧ (OkR G L → SetP (hasB G) (hasB L) t)
theorem StS.unique {G L : LP} {t s : Int} (h : StS G L t) (k : StS G L s) : t = s := by
  by_cases c : OkR G L
  · exact (h.2 c).unique (k.2 c)
  · rw [h.1 c, k.1 c]
/-- A list that a function gives back. -/
structure Lo (w : World) (v : Value) (N : LP) : Prop where
  its : Itw w v N
  len : N.length ≤ 200
  bd : Inside N 0 1073741825
theorem Lo.keep {w w' : World} {v : Value} {N : LP} (h : Lo w v N) (hb : Below w.heap.size w w') : Lo w' v N := ⟨h.its.keep hb, h.len, h.bd⟩
theorem Lo.nil (w : World) : Lo w (.slice none 0 0) [] := ⟨Spn.Its.wide (.inl ⟨rfl, rfl⟩), by simp, fun p hp => by cases hp⟩
theorem Lo.form {w : World} {v : Value} {N : LP} (h : Lo w v N) : ∃ a n c, v = .slice a n c := by
  obtain ⟨a, c, e, _⟩ := itw_form h.its
  exact ⟨a, _, c, e⟩
theorem acc_all {w : World} {vg vl : Value} {G L : LP} (h : Rq w vg vl G L) (q : Int) :
    Calls Try.prog 39 #[.agg #[vg, vl], .int .i64 q] w fun e w' => (∃ ug ul b er G' L', e = .returned (.tuple #[.agg #[ug, ul], .bool b, .int .i64 er]) ∧ AccR G L q G' L' b er ∧ Lo w' ug G' ∧ Lo w' ul L') ∧ Below w.heap.size w w' := by
  by_cases c : OkR G L
  · by_cases r : q < 0 ∨ 1073741824 < q
    · refine (accept_rng h q c r).mono fun e w' hh => ⟨?_, hh.2⟩
      exact ⟨_, _, _, _, [], [], hh.1, ⟨fun n => absurd c n, fun _ _ => ⟨rfl, rfl, rfl, rfl⟩, fun _ a b => by omega⟩, Lo.nil _, Lo.nil _⟩
    · refine (accept_any (h.rc c) q (by omega) (by omega)).mono fun e w' hh => ⟨?_, hh.2⟩
      obtain ⟨⟨ug, ul, he, ⟨N1, s1, s2, s3, s4⟩, ⟨N2, t1, t2, t3, t4⟩, _⟩, _⟩ := hh
      exact ⟨ug, ul, _, _, N1, N2, he, ⟨fun n => absurd c n, fun _ a => absurd a r, fun _ _ _ => ⟨s2, t2, rfl, rfl⟩⟩, ⟨s1, by omega, s4⟩, ⟨t1, by omega, t4⟩⟩
  · refine (accept_inv h q c).mono fun e w' hh => ⟨?_, hh.2⟩
    exact ⟨_, _, _, _, [], [], hh.1, ⟨fun _ => ⟨rfl, rfl, rfl, rfl⟩, fun n => absurd n c, fun n => absurd n c⟩, Lo.nil _, Lo.nil _⟩
theorem los_all {w : World} {vg vl : Value} {G L : LP} (h : Rq w vg vl G L) (q : Int) :
    Calls Try.prog 41 #[.agg #[vg, vl], .int .i64 q] w fun e w' => (∃ ug ul er G' L', e = .returned (.tuple #[.agg #[ug, ul], .int .i64 er]) ∧ LosR G L q G' L' er ∧ Lo w' ug G' ∧ Lo w' ul L') ∧ Below w.heap.size w w' := by
  by_cases c : OkR G L
  · by_cases r : q < 0 ∨ 1073741825 < q
    · refine (lose_rng h q c r).mono fun e w' hh => ⟨?_, hh.2⟩
      exact ⟨_, _, _, [], [], hh.1, ⟨fun n => absurd c n, fun _ _ => ⟨rfl, rfl, rfl⟩, fun _ a b => by omega⟩, Lo.nil _, Lo.nil _⟩
    · refine (lose_any (h.rc c) q (by omega) (by omega)).mono fun e w' hh => ⟨?_, hh.2⟩
      obtain ⟨⟨ug, ul, he, ⟨N1, s1, s2, s3, s4⟩, ⟨N2, t1, t2, t3, t4⟩, _⟩, _⟩ := hh
      exact ⟨ug, ul, _, N1, N2, he, ⟨fun n => absurd c n, fun _ a => absurd a r, fun _ _ _ => ⟨s2, t2, rfl⟩⟩, ⟨s1, by omega, s4⟩, ⟨t1, by omega, t4⟩⟩
  · refine (lose_inv h q c).mono fun e w' hh => ⟨?_, hh.2⟩
    exact ⟨_, _, _, [], [], hh.1, ⟨fun _ => ⟨rfl, rfl, rfl⟩, fun n => absurd n c, fun n => absurd n c⟩, Lo.nil _, Lo.nil _⟩
theorem mis_all {w : World} {vg vl : Value} {G L : LP} (h : Rq w vg vl G L) (q : Int) :
    Calls Try.prog 44 #[.agg #[vg, vl], .int .i64 q] w fun e w' => (∃ v er N, e = .returned (.tuple #[v, .int .i64 er]) ∧ MisS G L q N er ∧ Lo w' v N) ∧ Below w.heap.size w w' := by
  by_cases c : OkR G L
  · by_cases r : q < 0 ∨ 1073741825 < q
    · refine (missing_rng h q c r).mono fun e w' hh => ⟨?_, hh.2⟩
      exact ⟨_, _, [], hh.1, ⟨fun n => absurd c n, fun _ _ => ⟨rfl, rfl⟩, fun _ a b => by omega⟩, Lo.nil _⟩
    · refine (missing_any (h.rc c) q (by omega) (by omega)).mono fun e w' hh => ⟨?_, hh.2⟩
      obtain ⟨⟨v, t, he, hT, N1, s1, s2, s3, s4⟩, _⟩ := hh
      exact ⟨v, _, N1, he, ⟨fun n => absurd c n, fun _ a => absurd a r, fun _ _ _ => ⟨⟨t, hT, s2.congr fun x => by rw [Bool.not_or, Bool.and_assoc]⟩, rfl⟩⟩, ⟨s1, by omega, s4⟩⟩
  · refine (missing_inv h q c).mono fun e w' hh => ⟨?_, hh.2⟩
    exact ⟨_, _, [], hh.1, ⟨fun _ => ⟨rfl, rfl⟩, fun n => absurd n c, fun n => absurd n c⟩, Lo.nil _⟩
theorem valid_all {w : World} {vg vl : Value} {G L : LP} (h : Rq w vg vl G L) :
    Calls Try.prog 48 #[.agg #[vg, vl]] w fun e w' => e = .returned (.bool (okB G L)) ∧ Below w.heap.size w w' := by
  by_cases c : OkR G L
  · rw [okB_yes c]; exact valid_any (h.rc c)
  · rw [okB_no c]; exact valid_no h c
theorem high_all {w : World} {vg vl : Value} {G L : LP} (h : Rq w vg vl G L) :
    Calls Try.prog 50 #[.agg #[vg, vl]] w fun e w' => (∃ t : Int, e = .returned (.int .i64 t) ∧ HiS G L t) ∧ Below w.heap.size w w' := by
  by_cases c : OkR G L
  · refine (high_any (h.rc c)).mono fun e w' hh => ⟨?_, hh.2⟩
    obtain ⟨⟨t, he, hT⟩, _⟩ := hh
    exact ⟨t, he, fun n => absurd c n, fun _ => hT⟩
  · refine (high_no h c).mono fun e w' hh => ⟨?_, hh.2⟩
    exact ⟨0, hh.1, fun _ => rfl, fun n => absurd n c⟩
theorem settled_all {w : World} {vg vl : Value} {G L : LP} (h : Rq w vg vl G L) :
    Calls Try.prog 52 #[.agg #[vg, vl]] w fun e w' => (∃ t : Int, e = .returned (.int .i64 t) ∧ StS G L t) ∧ Below w.heap.size w w' := by
  by_cases c : OkR G L
  · refine (settled_any (h.rc c)).mono fun e w' hh => ⟨?_, hh.2⟩
    obtain ⟨⟨t, he, hT⟩, _⟩ := hh
    exact ⟨t, he, fun n => absurd c n, fun _ => hT⟩
  · refine (settled_no h c).mono fun e w' hh => ⟨?_, hh.2⟩
    exact ⟨0, hh.1, fun _ => rfl, fun n => absurd n c⟩
set_option maxHeartbeats 4000000 in
set_option maxRecDepth 100000 in
theorem req_all {w : World} {vg vl : Value} {G L : LP} (h : Rq w vg vl G L) (q n : Int) (nw : -9223372036854775808 ≤ n ∧ n ≤ 9223372036854775807) :
    Calls Try.prog 46 #[.agg #[vg, vl], .int .i64 q, .int .i64 n] w fun e w' => (∃ v er N, e = .returned (.tuple #[v, .int .i64 er]) ∧ ReqS G L q n N er ∧ Lo w' v N) ∧ Below w.heap.size w w' := by
  obtain ⟨ga, gn, gc, la, ln, lc, rfl, rfl⟩ := h.form
  have HR := Lib.hid h
  clear h
  go_enter Try.func46, Try.ntmps46
  obtain ⟨wb, hwb⟩ : ∃ wb, wb = w.alloc (.cells #[.slice ga gn gc, .slice la ln lc] 46) := ⟨_, rfl⟩
  have B0 := Lib.hid (show Below w.heap.size w wb by rw [hwb]; exact new_block _)
  have PX : wb.heap[w.heap.size]? = some (.cells #[.slice ga gn gc, .slice la ln lc] 46 (0, 0)) := by rw [hwb]; exact heap_alloc_new w _
  obtain ⟨k0, k1⟩ := Spn.c2 PX
  have V := Lib.hid (mis_all (HR.out.keep B0.out) q)
  go_upto_region 1 with fail
  rw [← hwb]
  clear hwb
  go_wp2_with fail
  refine V.out.mono ?_
  rintro e w1 ⟨⟨v, er, M, rfl, hM, hL⟩, hb⟩
  obtain ⟨va, vn, vc, rfl⟩ := hL.form
  have MM := Lib.hid hM
  have ML := Lib.hid hL
  have B1 := Lib.hid (Buf.then_ B0.out hb)
  clear hM hL hb k0 k1 PX V HR
  by_cases c : er = 0
  · subst c
    by_cases r : n < 0 ∨ 256 < n
    · go_wp2_with (go_at_call 64; refine (within_no n 0 256 _ (by omega)).mono ?_; rintro e w2 ⟨rfl, m, rfl⟩)
      go_ret2
      exact ⟨⟨_, _, [], rfl, ⟨M, 0, MM.out, fun c => absurd rfl c, fun _ _ => ⟨rfl, rfl⟩, fun _ a b => by omega⟩, Lo.nil _⟩, (by first | exact B1.out | exact Buf.below_drewN B1.out _)⟩
    · have F := Lib.hid fun (m : Nat) => first_genw n (ML.out.keep (Buf.below_drewN (Below.refl _ w1) m)).its (fun p hp => by have := ML.out.bd p hp; omega) (by have := ML.out.len; omega) nw.1 nw.2
      have r1 : 0 ≤ n := by omega
      have r2 : n ≤ 256 := by omega
      clear nw
      go_wp2_with (go_at_call 64; refine (within_yes n 0 256 _ (by omega) (by omega)).mono ?_; rintro e w2 ⟨rfl, m, rfl⟩)
      refine (F.out _).mono ?_
      rintro e w3 ⟨⟨rv, N', hN', _, rfl, O⟩, hb⟩
      have hc : Canon M ∨ M = [] := by
        by_cases ok : OkR G L
        · by_cases r : q < 0 ∨ 1073741825 < q
          · exact .inr (MM.out.rng ok r).1
          · obtain ⟨⟨t, _, hI⟩, _⟩ := MM.out.ok ok (by omega) (by omega)
            exact .inl hI.canon
        · exact .inr (MM.out.inv ok).1
      have hMN : M = N' := by
        rcases hc with hc | rfl
        · exact (Is.self hc).unique hN'
        · exact (Is.self Canon.nil).unique hN'
      subst hMN
      have hlen := ML.out.len
      have hfl := firstL_len M n
      go_wp2_with fail
      go_ret2
      exact ⟨⟨_, _, firstL M n, rfl, ⟨M, 0, MM.out, fun c => absurd rfl c, fun _ a => by omega, fun _ _ _ => ⟨rfl, rfl⟩⟩, ⟨(its_of_own O).wide, by omega, firstL_in (fun p hp => ⟨(ML.out.bd p hp).1, (ML.out.bd p hp).2⟩) (fun p hp => hc.elim (fun c => c.one p hp) (fun c => by subst c; cases hp)) n⟩⟩, Buf.then_ (by first | exact B1.out | exact Buf.below_drewN B1.out _) hb⟩
  · have d1 : (er == 0) = false := by simp [c]
    have d2 : (er != 0) = true := by simp [c]
    go_wp2_with fail
    go_ret2
    exact ⟨⟨_, _, [], rfl, ⟨M, er, MM.out, fun _ => ⟨rfl, rfl⟩, fun a => absurd a c, fun a => absurd a c⟩, Lo.nil _⟩, B1.out⟩
theorem refacc_all {w : World} {vg vl : Value} {G L : LP} (h : Rq w vg vl G L) (q : Int) :
    Calls Try.prog 40 #[.agg #[vg, vl], .int .i64 q] w fun e w' => (∃ ug ul b er G' L', e = .returned (.tuple #[.agg #[ug, ul], .bool b, .int .i64 er]) ∧ AccR G L q G' L' b er ∧ Lo w' ug G' ∧ Lo w' ul L') ∧ Below w.heap.size w w' := by
  by_cases c : OkR G L
  · by_cases r : q < 0 ∨ 1073741824 < q
    · refine (refaccept_rng h q c r).mono fun e w' hh => ⟨?_, hh.2⟩
      exact ⟨_, _, _, _, [], [], hh.1, ⟨fun n => absurd c n, fun _ _ => ⟨rfl, rfl, rfl, rfl⟩, fun _ a b => by omega⟩, Lo.nil _, Lo.nil _⟩
    · refine (refaccept_any (h.rc c) q (by omega) (by omega)).mono fun e w' hh => ⟨?_, hh.2⟩
      obtain ⟨⟨ug, ul, he, ⟨N1, s1, s2, s3, s4⟩, ⟨N2, t1, t2, t3, t4⟩, _⟩, _⟩ := hh
      exact ⟨ug, ul, _, _, N1, N2, he, ⟨fun n => absurd c n, fun _ a => absurd a r, fun _ _ _ => ⟨s2, t2, rfl, rfl⟩⟩, ⟨s1, by omega, s4⟩, ⟨t1, by omega, t4⟩⟩
  · refine (refaccept_inv h q c).mono fun e w' hh => ⟨?_, hh.2⟩
    exact ⟨_, _, _, _, [], [], hh.1, ⟨fun _ => ⟨rfl, rfl, rfl, rfl⟩, fun n => absurd n c, fun n => absurd n c⟩, Lo.nil _, Lo.nil _⟩
theorem reflos_all {w : World} {vg vl : Value} {G L : LP} (h : Rq w vg vl G L) (q : Int) :
    Calls Try.prog 42 #[.agg #[vg, vl], .int .i64 q] w fun e w' => (∃ ug ul er G' L', e = .returned (.tuple #[.agg #[ug, ul], .int .i64 er]) ∧ LosR G L q G' L' er ∧ Lo w' ug G' ∧ Lo w' ul L') ∧ Below w.heap.size w w' := by
  by_cases c : OkR G L
  · by_cases r : q < 0 ∨ 1073741825 < q
    · refine (reflose_rng h q c r).mono fun e w' hh => ⟨?_, hh.2⟩
      exact ⟨_, _, _, [], [], hh.1, ⟨fun n => absurd c n, fun _ _ => ⟨rfl, rfl, rfl⟩, fun _ a b => by omega⟩, Lo.nil _, Lo.nil _⟩
    · refine (reflose_any (h.rc c) q (by omega) (by omega)).mono fun e w' hh => ⟨?_, hh.2⟩
      obtain ⟨⟨ug, ul, he, ⟨N1, s1, s2, s3, s4⟩, ⟨N2, t1, t2, t3, t4⟩, _⟩, _⟩ := hh
      exact ⟨ug, ul, _, N1, N2, he, ⟨fun n => absurd c n, fun _ a => absurd a r, fun _ _ _ => ⟨s2, t2, rfl⟩⟩, ⟨s1, by omega, s4⟩, ⟨t1, by omega, t4⟩⟩
  · refine (reflose_inv h q c).mono fun e w' hh => ⟨?_, hh.2⟩
    exact ⟨_, _, _, [], [], hh.1, ⟨fun _ => ⟨rfl, rfl, rfl⟩, fun n => absurd n c, fun n => absurd n c⟩, Lo.nil _, Lo.nil _⟩
theorem refmis_all {w : World} {vg vl : Value} {G L : LP} (h : Rq w vg vl G L) (q : Int) :
    Calls Try.prog 45 #[.agg #[vg, vl], .int .i64 q] w fun e w' => (∃ v er N, e = .returned (.tuple #[v, .int .i64 er]) ∧ MisS G L q N er ∧ Lo w' v N) ∧ Below w.heap.size w w' := by
  by_cases c : OkR G L
  · by_cases r : q < 0 ∨ 1073741825 < q
    · refine (refmissing_rng h q c r).mono fun e w' hh => ⟨?_, hh.2⟩
      exact ⟨_, _, [], hh.1, ⟨fun n => absurd c n, fun _ _ => ⟨rfl, rfl⟩, fun _ a b => by omega⟩, Lo.nil _⟩
    · refine (refmissing_ok h c q (by omega) (by omega)).mono fun e w' hh => ⟨?_, hh.2⟩
      obtain ⟨⟨v, t, he, hT, N1, s1, s2, s3, s4⟩, _⟩ := hh
      exact ⟨v, _, N1, he, ⟨fun n => absurd c n, fun _ a => absurd a r, fun _ _ _ => ⟨⟨t, hT, s2⟩, rfl⟩⟩, ⟨s1, by omega, s4⟩⟩
  · refine (refmissing_inv h q c).mono fun e w' hh => ⟨?_, hh.2⟩
    exact ⟨_, _, [], hh.1, ⟨fun _ => ⟨rfl, rfl⟩, fun n => absurd n c, fun n => absurd n c⟩, Lo.nil _⟩
theorem refvalid_all {w : World} {vg vl : Value} {G L : LP} (h : Rq w vg vl G L) :
    Calls Try.prog 49 #[.agg #[vg, vl]] w fun e w' => e = .returned (.bool (okB G L)) ∧ Below w.heap.size w w' := by
  by_cases c : OkR G L
  · rw [okB_yes c]; exact refvalid11_yes (h.rc c)
  · rw [okB_no c]; exact refvalid_no h c
theorem refhigh_all {w : World} {vg vl : Value} {G L : LP} (h : Rq w vg vl G L) :
    Calls Try.prog 51 #[.agg #[vg, vl]] w fun e w' => (∃ t : Int, e = .returned (.int .i64 t) ∧ HiS G L t) ∧ Below w.heap.size w w' := by
  by_cases c : OkR G L
  · refine (refhigh_ok h c).mono fun e w' hh => ⟨?_, hh.2⟩
    obtain ⟨⟨t, he, hT⟩, _⟩ := hh
    exact ⟨t, he, fun n => absurd c n, fun _ => hT⟩
  · refine (refhigh_no h c).mono fun e w' hh => ⟨?_, hh.2⟩
    exact ⟨0, hh.1, fun _ => rfl, fun n => absurd n c⟩
theorem refsettled_all {w : World} {vg vl : Value} {G L : LP} (h : Rq w vg vl G L) :
    Calls Try.prog 53 #[.agg #[vg, vl]] w fun e w' => (∃ t : Int, e = .returned (.int .i64 t) ∧ StS G L t) ∧ Below w.heap.size w w' := by
  by_cases c : OkR G L
  · refine (refsettled_ok h c).mono fun e w' hh => ⟨?_, hh.2⟩
    obtain ⟨⟨t, he, hT⟩, _⟩ := hh
    exact ⟨t, he, fun n => absurd c n, fun _ => hT⟩
  · refine (refsettled_no h c).mono fun e w' hh => ⟨?_, hh.2⟩
    exact ⟨0, hh.1, fun _ => rfl, fun n => absurd n c⟩
set_option maxHeartbeats 4000000 in
set_option maxRecDepth 100000 in
theorem refreq_all {w : World} {vg vl : Value} {G L : LP} (h : Rq w vg vl G L) (q n : Int) (nw : -9223372036854775808 ≤ n ∧ n ≤ 9223372036854775807) :
    Calls Try.prog 47 #[.agg #[vg, vl], .int .i64 q, .int .i64 n] w fun e w' => (∃ v er N, e = .returned (.tuple #[v, .int .i64 er]) ∧ ReqS G L q n N er ∧ Lo w' v N) ∧ Below w.heap.size w w' := by
  obtain ⟨ga, gn, gc, la, ln, lc, rfl, rfl⟩ := h.form
  have HR := Lib.hid h
  clear h
  go_enter Try.func47, Try.ntmps47
  obtain ⟨wb, hwb⟩ : ∃ wb, wb = w.alloc (.cells #[.slice ga gn gc, .slice la ln lc] 46) := ⟨_, rfl⟩
  have B0 := Lib.hid (show Below w.heap.size w wb by rw [hwb]; exact new_block _)
  have PX : wb.heap[w.heap.size]? = some (.cells #[.slice ga gn gc, .slice la ln lc] 46 (0, 0)) := by rw [hwb]; exact heap_alloc_new w _
  obtain ⟨k0, k1⟩ := Spn.c2 PX
  have V := Lib.hid (refmis_all (HR.out.keep B0.out) q)
  go_upto_region 1 with fail
  rw [← hwb]
  clear hwb
  go_wp2_with fail
  refine V.out.mono ?_
  rintro e w1 ⟨⟨v, er, M, rfl, hM, hL⟩, hb⟩
  obtain ⟨va, vn, vc, rfl⟩ := hL.form
  have MM := Lib.hid hM
  have ML := Lib.hid hL
  have B1 := Lib.hid (Buf.then_ B0.out hb)
  clear hM hL hb k0 k1 PX V HR
  by_cases c : er = 0
  · subst c
    by_cases r : n < 0 ∨ 256 < n
    · go_wp2_with (go_at_call 62; refine (refin_no n 0 256 _ (by omega)).mono ?_; rintro e w2 ⟨rfl, hw⟩; replace hw := hw.symm; subst hw)
      go_ret2
      exact ⟨⟨_, _, [], rfl, ⟨M, 0, MM.out, fun c => absurd rfl c, fun _ _ => ⟨rfl, rfl⟩, fun _ a b => by omega⟩, Lo.nil _⟩, (by first | exact B1.out | exact Buf.below_drewN B1.out _)⟩
    · have F := Lib.hid fun (m : Nat) => reffirst_genw n (ML.out.keep (Below.refl _ w1)).its (fun p hp => by have := ML.out.bd p hp; omega) (by have := ML.out.len; omega) nw.1 nw.2
      have r1 : 0 ≤ n := by omega
      have r2 : n ≤ 256 := by omega
      clear nw
      go_wp2_with (go_at_call 62; refine (refin_b n 0 256 _ (by omega) (by omega)).mono ?_; rintro e w2 ⟨rfl, hw⟩; replace hw := hw.symm; subst hw)
      refine (F.out 0).mono ?_
      rintro e w3 ⟨⟨rv, N', hN', _, rfl, O⟩, hb⟩
      have hc : Canon M ∨ M = [] := by
        by_cases ok : OkR G L
        · by_cases r : q < 0 ∨ 1073741825 < q
          · exact .inr (MM.out.rng ok r).1
          · obtain ⟨⟨t, _, hI⟩, _⟩ := MM.out.ok ok (by omega) (by omega)
            exact .inl hI.canon
        · exact .inr (MM.out.inv ok).1
      have hMN : M = N' := by
        rcases hc with hc | rfl
        · exact (Is.self hc).unique hN'
        · exact (Is.self Canon.nil).unique hN'
      subst hMN
      have hlen := ML.out.len
      have hfl := firstL_len M n
      go_wp2_with fail
      go_ret2
      exact ⟨⟨_, _, firstL M n, rfl, ⟨M, 0, MM.out, fun c => absurd rfl c, fun _ a => by omega, fun _ _ _ => ⟨rfl, rfl⟩⟩, ⟨(its_of_own O).wide, by omega, firstL_in (fun p hp => ⟨(ML.out.bd p hp).1, (ML.out.bd p hp).2⟩) (fun p hp => hc.elim (fun c => c.one p hp) (fun c => by subst c; cases hp)) n⟩⟩, Buf.then_ (by first | exact B1.out | exact Buf.below_drewN B1.out _) hb⟩
  · have d1 : (er == 0) = false := by simp [c]
    have d2 : (er != 0) = true := by simp [c]
    go_wp2_with fail
    go_ret2
    exact ⟨⟨_, _, [], rfl, ⟨M, er, MM.out, fun _ => ⟨rfl, rfl⟩, fun a => absurd a c, fun a => absurd a c⟩, Lo.nil _⟩, B1.out⟩
set_option maxHeartbeats 2000000 in
theorem refsame11_all {w : World} {vg vl ug ul : Value} {G L : LP} (hg : Lo w vg G) (hl : Lo w vl L) (kg : Lo w ug G) (kl : Lo w ul L) :
    Calls Try.prog 43 #[.agg #[vg, vl], .agg #[ug, ul]] w fun e w' => e = .returned (.bool true) ∧ Below w.heap.size w w' := by
  obtain ⟨ga, gn, gc, rfl⟩ := hg.form
  obtain ⟨la, ln, lc, rfl⟩ := hl.form
  obtain ⟨ga', gn', gc', rfl⟩ := kg.form
  obtain ⟨la', ln', lc', rfl⟩ := kl.form
  have S1 := Lib.hid fun (w' : World) (h' : Below w.heap.size w w') => same_yesw (hg.keep h').its (kg.keep h').its (by have := hg.len; omega)
  have S2 := Lib.hid fun (w' : World) (h' : Below w.heap.size w w') => same_yesw (hl.keep h').its (kl.keep h').its (by have := hl.len; omega)
  clear hg hl kg kl
  go_enter Try.func43, Try.ntmps43
  have W1 := Lib.hid (Buf.then_ (new_block (w := w) (.cells #[.slice ga gn gc, .slice la ln lc] 46)) (new_block (.cells #[.slice ga' gn' gc', .slice la' ln' lc'] 46)))
  obtain ⟨wb, hwb⟩ : ∃ wb, wb = (w.alloc (.cells #[.slice ga gn gc, .slice la ln lc] 46)).alloc (.cells #[.slice ga' gn' gc', .slice la' ln' lc'] 46) := ⟨_, rfl⟩
  have P1 : Hid (wb.heap[w.heap.size]? = some (.cells #[.slice ga gn gc, .slice la ln lc] 46 (0, 0))) := Lib.hid (by rw [hwb]; exact hop (new_block _) (heap_alloc_new w _))
  have P2 : Hid (wb.heap[w.heap.size + 1]? = some (.cells #[.slice ga' gn' gc', .slice la' ln' lc'] 46 (0, 0))) := Lib.hid (by rw [hwb, show w.heap.size + 1 = (w.alloc (.cells #[.slice ga gn gc, .slice la ln lc] 46)).heap.size by simp]; exact heap_alloc_new _ _)
  rw [← hwb] at W1
  go_upto_region 1 with fail
  rw [← hwb]
  replace hwb := Lib.hid hwb
  obtain ⟨q0, q1⟩ := c2 P1.out
  obtain ⟨q2, q3⟩ := c2 P2.out
  go_wp2_with fail
  refine (S1.out _ W1.out).mono ?_
  rintro e w1 ⟨rfl, b1⟩
  clear q0 q1 q2 q3
  obtain ⟨q0, q1⟩ := c2 (hop b1 P1.out)
  obtain ⟨q2, q3⟩ := c2 (hop b1 P2.out)
  have B1 := Lib.hid (Buf.then_ W1.out b1)
  clear b1
  go_wp2_with fail
  refine (S2.out _ B1.out).mono ?_
  rintro e w2 ⟨rfl, b2⟩
  go_wp2_with fail
  go_ret
  exact ⟨rfl, Buf.then_ B1.out b2⟩
noncomputable def hiN (G L : LP) : Int := @Classical.epsilon Int ⟨0⟩ (HiS G L)
theorem hiN_of {G L : LP} {t : Int} (h : HiS G L t) : t = hiN G L := h.unique (@Classical.epsilon_spec Int (HiS G L) ⟨t, h⟩)
noncomputable def stN (G L : LP) : Int := @Classical.epsilon Int ⟨0⟩ (StS G L)
theorem stN_of {G L : LP} {t : Int} (h : StS G L t) : t = stN G L := h.unique (@Classical.epsilon_spec Int (StS G L) ⟨t, h⟩)
theorem high_n {w : World} {vg vl : Value} {G L : LP} (h : Rq w vg vl G L) :
    Calls Try.prog 50 #[.agg #[vg, vl]] w fun e w' => e = .returned (.int .i64 (hiN G L)) ∧ Below w.heap.size w w' :=
  (high_all h).mono fun e w' ⟨⟨t, he, hT⟩, hb⟩ => ⟨by rw [he, hiN_of hT], hb⟩
theorem settled_n {w : World} {vg vl : Value} {G L : LP} (h : Rq w vg vl G L) :
    Calls Try.prog 52 #[.agg #[vg, vl]] w fun e w' => e = .returned (.int .i64 (stN G L)) ∧ Below w.heap.size w w' :=
  (settled_all h).mono fun e w' ⟨⟨t, he, hT⟩, hb⟩ => ⟨by rw [he, stN_of hT], hb⟩
theorem refhigh_n {w : World} {vg vl : Value} {G L : LP} (h : Rq w vg vl G L) :
    Calls Try.prog 51 #[.agg #[vg, vl]] w fun e w' => e = .returned (.int .i64 (hiN G L)) ∧ Below w.heap.size w w' :=
  (refhigh_all h).mono fun e w' ⟨⟨t, he, hT⟩, hb⟩ => ⟨by rw [he, hiN_of hT], hb⟩
theorem refsettled_n {w : World} {vg vl : Value} {G L : LP} (h : Rq w vg vl G L) :
    Calls Try.prog 53 #[.agg #[vg, vl]] w fun e w' => e = .returned (.int .i64 (stN G L)) ∧ Below w.heap.size w w' :=
  (refsettled_all h).mono fun e w' ⟨⟨t, he, hT⟩, hb⟩ => ⟨by rw [he, stN_of hT], hb⟩
end Rx
end Go.Proofs.Ytfmhfhggogjbkaa
