/- The order of records: its laws. -/
import Derived.Test.YtojfnegogdllfaaRecT
import Derived.Test.YtojfnegogdllfaaRecK
import Derived.Test.YtojfnegogdllfaaWithinN
import Derived.RegionTactic
import Derived.BigQuiet
import Derived.Laws.Rows
import Derived.Deep.MidRow
set_option linter.unusedVariables false
set_option linter.unusedSimpArgs false
namespace Go.Proofs.Ytojfnegogdllfaa
open Go.RowKit Wi Dice
namespace Rec
theorem exec_mid {P : Program} {ρ : Operand → Value} {o : Oper} {w : World} (ty : TypeId) (x : Operand) (ho : o.op = .load ty x) (b k : Nat) (hx : ρ x = .pointer (some ⟨b, k, none⟩)) (cs : List Value) (d : TypeDesc)
    (hc : w.rangeAt b k cs) (hu : P.underlying ty = some d) (hd : d.isRow = true) (hi : (P.info? ty).map (·.size) = some cs.length) :
    (execOp ρ o).run P w = .ok (.value (.agg cs.toArray)) w := by
  unfold execOp
  simp only [ho, hx, Instr.loadAt, Instr.sureAddr, Sem.run_bind, Sem.run_pure, Result.andThen_ok, run_loadVar_mid w b k ty cs d hc hu hd hi]
theorem quiet_mid {P : Program} {C : World → Prop} {o : Oper} {a : Act} {K : Act → Prop} (ty : TypeId) (x : Operand) (ho : o.op = .load ty x) (b k : Nat) (hx : a.eval x = .pointer (some ⟨b, k, none⟩)) (cs : List Value) (d : TypeDesc)
    (hc : ∀ w, C w → w.rangeAt b k cs) (hu : P.underlying ty = some d) (hd : d.isRow = true) (hi : (P.info? ty).map (·.size) = some cs.length)
    (hk : K (a.put o.dst (.agg cs.toArray))) : o.quiet P a C K :=
  ⟨_, fun w hw => by unfold Oper.quietAt; rw [exec_mid ty x ho b k hx cs d (hc w hw) hu hd hi]; exact ⟨rfl, rfl⟩, hk⟩
def Rd.key (r : Rd) : RK := (tm r.st r.fi r.num r.den 0, r.st, r.fi, r.num, r.den, r.er, r.ru, r.se, (r.n : Int), r.xs)
def Rd.cc (r q : Rd) : Int := cR r.key q.key
def Rd.bb (r q : Rd) : Bool := cB (r.er, r.ru, r.se, r.key) (q.er, q.ru, q.se, q.key) == -1
section
variable {s0 s1 s2 s3 : List UInt8}
theorem cc_any {r q : Rd} {B : Nat} {w : World} (h : Rd.Ok s0 s1 s2 s3 B w r) (k : Rd.Ok s0 s1 s2 s3 B w q) :
    Calls Try.prog 22 #[.agg (Rd.row s0 s1 s2 s3 r).toArray, .agg (Rd.row s0 s1 s2 s3 q).toArray] w fun e w' => e = .returned (.int .i64 (r.cc q)) ∧ Below w.heap.size w w' := compare_any h.rp k.rp h.rx k.rx
theorem bb_any {r q : Rd} {B : Nat} {w : World} (h : Rd.Ok s0 s1 s2 s3 B w r) (k : Rd.Ok s0 s1 s2 s3 B w q) :
    Calls Try.prog 23 #[.agg (Rd.row s0 s1 s2 s3 r).toArray, .agg (Rd.row s0 s1 s2 s3 q).toArray] w fun e w' => e = .returned (.bool (r.bb q)) ∧ Below w.heap.size w w' := better_any h.rp k.rp h.rx k.rx
theorem cc_zero {r q : Rd} (hr : r.n = r.xs.length) (hq : q.n = q.xs.length) : r.cc q = 0 ↔ (r.st = q.st ∧ r.fi = q.fi ∧ r.num = q.num ∧ r.den = q.den ∧ r.er = q.er ∧ r.ru = q.ru ∧ r.se = q.se ∧ r.xs = q.xs) := by
  unfold Rd.cc
  rw [cR_to.zero]
  unfold Rd.key
  constructor
  · intro h
    simp only [Prod.mk.injEq] at h
    obtain ⟨_, h1, h2, h3, h4, h5, h6, h7, _, h8⟩ := h
    exact ⟨h1, h2, h3, h4, h5, h6, h7, h8⟩
  · rintro ⟨h1, h2, h3, h4, h5, h6, h7, h8⟩
    rw [h1, h2, h3, h4, h5, h6, h7, h8, hr, hq, h8]
theorem sm_any {r q : Rd} {B : Nat} {w : World} (h : Rd.Ok s0 s1 s2 s3 B w r) (k : Rd.Ok s0 s1 s2 s3 B w q) :
    Calls Try.prog 16 #[.agg (Rd.row s0 s1 s2 s3 r).toArray, .agg (Rd.row s0 s1 s2 s3 q).toArray] w fun e w' => e = .returned (.bool (decide (r.cc q = 0))) ∧ Below w.heap.size w w' :=
  (same_gen h.rx k.rx).mono fun e w' ⟨he, hb⟩ => ⟨by rw [he]; congr 2; exact decide_eq_decide.2 (cc_zero h.rx.hn k.rx.hn).symm, hb⟩
end
theorem rd_at {s0 s1 s2 s3 : List UInt8} {B : Nat} {A : World} {go m c : Nat} {L : List Rd} (h : RS s0 s1 s2 s3 B A (.slice (some ⟨go, 0, none⟩) m c) L) {w : World} (hb : Below A.heap.size A w) {k : Nat} {r : Rd} (hk : L[k]? = some r) :
    (∀ w', Below w.heap.size w w' → w'.rangeAt go (k * 12) (Rd.row s0 s1 s2 s3 r)) ∧ (∀ w', Below w.heap.size w w' → Rd.Ok s0 s1 s2 s3 B w' r) :=
  ⟨fun w' h' => (h.keep (Buf.then_ hb h')).range hk, fun w' h' => (h.ok r (List.mem_of_getElem? hk)).keep (Buf.then_ hb h')⟩
theorem cc_anti (r q : Rd) : q.cc r = - r.cc q := cR_to.anti _ _
theorem cc_small (r q : Rd) : r.cc q = -1 ∨ r.cc q = 0 ∨ r.cc q = 1 := cR_small _ _
theorem cc_trans {r q p : Rd} (h1 : r.cc q < 0) (h2 : q.cc p < 0) : r.cc p < 0 := cR_to.lt h1 (Int.le_of_lt h2)
theorem bb_trans {r q p : Rd} (h1 : r.bb q = true) (h2 : q.bb p = true) : r.bb p = true := by
  unfold Rd.bb at *
  simp only [beq_iff_eq] at *
  have := cB_to.lt (x := (r.er, r.ru, r.se, r.key)) (y := (q.er, q.ru, q.se, q.key)) (z := (p.er, p.ru, p.se, p.key)) (by omega) (by omega)
  rcases cB_small (r.er, r.ru, r.se, r.key) (p.er, p.ru, p.se, p.key) with h | h | h <;> omega
theorem bb_asym (r q : Rd) : r.bb q = true → q.bb r = false := by
  unfold Rd.bb
  intro h
  simp only [beq_iff_eq] at h
  have := cB_to.anti (r.er, r.ru, r.se, r.key) (q.er, q.ru, q.se, q.key)
  simp only [beq_eq_false_iff_ne]
  omega
theorem bb_total (r q : Rd) : r.bb q = false → q.bb r = false → r.cc q = 0 := by
  unfold Rd.bb
  intro h1 h2
  simp only [beq_eq_false_iff_ne] at h1 h2
  have a := cB_to.anti (r.er, r.ru, r.se, r.key) (q.er, q.ru, q.se, q.key)
  have s := cB_small (r.er, r.ru, r.se, r.key) (q.er, q.ru, q.se, q.key)
  have z : cB (r.er, r.ru, r.se, r.key) (q.er, q.ru, q.se, q.key) = 0 := by unfold small at s; omega
  have e := (cB_to.zero _ _).1 z
  simp only [Prod.mk.injEq] at e
  exact (cR_to.zero _ _).2 e.2.2.2
theorem bb_zero (r q : Rd) : r.cc q = 0 → r.er = q.er → r.ru = q.ru → r.se = q.se → r.bb q = false := by
  unfold Rd.bb Rd.cc
  intro h e1 e2 e3
  have e := (cR_to.zero _ _).1 h
  rw [e1, e2, e3, e, (cB_to.zero _ _).2 rfl]
  rfl
theorem cc_bb (r q : Rd) (hr : r.n = r.xs.length) (hq : q.n = q.xs.length) (h : r.cc q = 0) : r.bb q = false := by
  obtain ⟨_, _, _, _, h1, h2, h3, _⟩ := (cc_zero hr hq).1 h
  exact bb_zero r q h h1 h2 h3
theorem five (r q : Rd) (hr : r.n = r.xs.length) (hq : q.n = q.xs.length) : (r.cc q = 0 ∧ q.cc r = 0 ∧ r.bb q = false ∧ q.bb r = false) ∨ (r.cc q = -1 ∧ q.cc r = 1 ∧ r.bb q = true ∧ q.bb r = false) ∨ (r.cc q = -1 ∧ q.cc r = 1 ∧ r.bb q = false ∧ q.bb r = true) ∨ (r.cc q = 1 ∧ q.cc r = -1 ∧ r.bb q = true ∧ q.bb r = false) ∨ (r.cc q = 1 ∧ q.cc r = -1 ∧ r.bb q = false ∧ q.bb r = true) := by
  have a := cc_anti r q
  have t := bb_total r q
  have s1 := bb_asym r q
  have z1 := cc_bb r q hr hq
  have z2 := cc_bb q r hq hr
  rcases cc_small r q with h | h | h <;> cases h1 : r.bb q <;> cases h2 : q.bb r <;> simp [h, h1, h2] at * <;> omega
end Rec
end Go.Proofs.Ytojfnegogdllfaa
