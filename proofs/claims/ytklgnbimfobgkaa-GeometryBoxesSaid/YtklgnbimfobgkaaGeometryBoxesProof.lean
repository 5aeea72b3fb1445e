/-
  GeometryBoxes: at every input the law returns true and leaves its arguments as they were. No conditions.
-/
import Derived.Test.YtklgnbimfobgkaaRows
import Derived.Test.YtklgnbimfobgkaaGeometryBoxesWalk
import Derived.WalkKit
import Derived.ProofKit
import Derived.OpenShut
import Derived.ShutString
import Derived.ChangeOld
import Derived.Below
import Derived.Lib.SmallJoins
import Derived.ChangeArms
namespace Go.Proofs.Ytklgnbimfobgkaa.geometryBoxes
open Go.ChangeShapes Go.WideShapes Go.ChangeAt Go.RowKit Go.Joins
set_option linter.unusedVariables false
set_option linter.unusedSimpArgs false

theorem own : ownKnob Try.prog.godebug = none := by kernel_rfl
theorem laidOut : laidOutB Try.prog = true := by kernel_rfl

open Go.Proofs.Ytklgnbimfobgkaa.Buf (IsRow)

theorem arr3 {α : Type} {cs : Array α} (h : cs.size = 3) : ∃ c0 c1 c2, cs = #[c0, c1, c2] := by
  obtain ⟨l⟩ := cs
  match l, h with
  | [c0, c1, c2], _ => exact ⟨c0, c1, c2, rfl⟩
theorem arr6 {α : Type} {cs : Array α} (h : cs.size = 6) : ∃ c0 c1 c2 c3 c4 c5, cs = #[c0, c1, c2, c3, c4, c5] := by
  obtain ⟨l⟩ := cs
  match l, h with
  | [c0, c1, c2, c3, c4, c5], _ => exact ⟨c0, c1, c2, c3, c4, c5, rfl⟩
theorem str2 {H : Type} {enc : TypeId × Value → H} {P : Program} {w : World} {base : Nat} {spare : Nat → Bool} {held : Bool} {t : TypeId} {f0 f1 : Field} {fuel : Nat} {cs : List Value} {x : DataW H × List MemPlace} (ht : P.underlying t = some (.struct #[f0, f1])) (h : DataW.trod enc P w base spare held fuel t cs = some x) :
    ∃ y0 y1 n, DataW.trod enc P w base spare held n f0.type ((cs.drop f0.offset).take (P.cellsOf f0.type)) = some y0 ∧ DataW.trod enc P w base spare held n f1.type ((cs.drop f1.offset).take (P.cellsOf f1.type)) = some y1 := by
  obtain ⟨xs, n, _, rfl, hl, hlen, hf⟩ := DataW.trod_struct ht h
  match xs, hlen with
  | [y0, y1], _ => exact ⟨y0, y1, n, by simpa using hf 0 f0 rfl, by simpa using hf 1 f1 rfl⟩
theorem str3 {H : Type} {enc : TypeId × Value → H} {P : Program} {w : World} {base : Nat} {spare : Nat → Bool} {held : Bool} {t : TypeId} {f0 f1 f2 : Field} {fuel : Nat} {cs : List Value} {x : DataW H × List MemPlace} (ht : P.underlying t = some (.struct #[f0, f1, f2])) (h : DataW.trod enc P w base spare held fuel t cs = some x) :
    ∃ y0 y1 y2 n, DataW.trod enc P w base spare held n f0.type ((cs.drop f0.offset).take (P.cellsOf f0.type)) = some y0 ∧ DataW.trod enc P w base spare held n f1.type ((cs.drop f1.offset).take (P.cellsOf f1.type)) = some y1 ∧ DataW.trod enc P w base spare held n f2.type ((cs.drop f2.offset).take (P.cellsOf f2.type)) = some y2 := by
  obtain ⟨xs, n, _, rfl, hl, hlen, hf⟩ := DataW.trod_struct ht h
  match xs, hlen with
  | [y0, y1, y2], _ => exact ⟨y0, y1, y2, n, by simpa using hf 0 f0 rfl, by simpa using hf 1 f1 rfl, by simpa using hf 2 f2 rfl⟩
theorem walk (n0_0 n0_1 n0_2 n0_3 n0_4 n0_5 : Int) (n1_0 n1_1 n1_2 n1_3 n1_4 n1_5 : Int) (n2_0 n2_1 n2_2 : Int) (a3 : Option Addr) (len3 cap3 : Nat) (z3 : List Int) (w : World) (w3 : IsRow .i64 w a3 len3 cap3 z3) :
    Calls Try.prog 3 #[.agg #[.int .i64 n0_0, .int .i64 n0_1, .int .i64 n0_2, .int .i64 n0_3, .int .i64 n0_4, .int .i64 n0_5], .agg #[.int .i64 n1_0, .int .i64 n1_1, .int .i64 n1_2, .int .i64 n1_3, .int .i64 n1_4, .int .i64 n1_5], .agg #[.int .i64 n2_0, .int .i64 n2_1, .int .i64 n2_2], .slice a3 len3 cap3] w fun e w' => e = .returned (.bool true) ∧ Below w.heap.size w w' := by
  exact Laws.geometryBoxes_walk n0_0 n0_1 n0_2 n0_3 n0_4 n0_5 n1_0 n1_1 n1_2 n1_3 n1_4 n1_5 n2_0 n2_1 n2_2 a3 len3 cap3 z3 w w3

set_option maxRecDepth 100000 in
theorem lifted (os : Os) (started : os.Started) (H : Type) (enc : TypeId × Value → H) :
    ReturnsInHanded {} Try.checked os 3 .any (Rows.geometryBoxesSpec.pre6 enc Try.prog Try.f3 Rows.geometryBoxesRow.domain false) (Rows.geometryBoxesSpec.post enc Try.prog Try.f3 false true false false) := by
  refine returnsInHanded_of_change (C := Try.checked) own started (by kernel_rfl) Try.func3
    (ChangeSpec.witness6 (enc := enc) (C := Try.checked) false ⟨#[], #[.agg #[.int .i64 0, .int .i64 0, .int .i64 0, .int .i64 0, .int .i64 0, .int .i64 0], .agg #[.int .i64 0, .int .i64 0, .int .i64 0, .int .i64 0, .int .i64 0, .int .i64 0], .agg #[.int .i64 0, .int .i64 0, .int .i64 0], .slice none 0 0], []⟩ 8 (by kernel_rfl) (by kernel_rfl) (by kernel_rfl) (by kernel_rfl)) ?_
  intro W base args ds gs before hval0 hW hcnd _
  have hval : ∀ (j : Nat) t v, Try.f3.params[j]? = some t → args[j]? = some v → Value.okWide Try.prog W .any base t v := hval0
  have hW' := hW
  obtain ⟨p, q, hA0, hV, rfl, hfz, hnd⟩ := hW
  have hA : DataW.TrodAll enc Try.prog W 0 (fun _ => true) true Try.f3.params.toList args.toList ds p := hA0
  rw [Try.params3] at hA hval
  obtain ⟨v0, vs0, d0, ds0, p0, q0, hargs, rfl, rfl, h0, r0⟩ := trodAll_cons hA
  obtain ⟨v1, vs1, d1, ds1, p1, q1, rfl, rfl, rfl, h1, r1⟩ := trodAll_cons r0
  obtain ⟨v2, vs2, d2, ds2, p2, q2, rfl, rfl, rfl, h2, r2⟩ := trodAll_cons r1
  obtain ⟨v3, vs3, d3, ds3, p3, q3, rfl, rfl, rfl, h3, r3⟩ := trodAll_cons r2
  obtain ⟨rfl, rfl, rfl⟩ := trodAll_nil r3
  obtain rfl : args = #[v0, v1, v2, v3] := by cases args; simp_all
  obtain ⟨rfl, rfl⟩ := trodVars_none hV
  have k0 := h0
  have lt0 : ∀ x ∈ p0, x.block < W.heap.size := by obtain ⟨m, hm⟩ := k0; exact DataW.trod_lt m _ _ _ hm
  obtain ⟨n0_0, n0_1, n0_2, n0_3, n0_4, n0_5, rfl⟩ : ∃ n0_0 n0_1 n0_2 n0_3 n0_4 n0_5 : Int, v0 = .agg #[.int .i64 n0_0, .int .i64 n0_1, .int .i64 n0_2, .int .i64 n0_3, .int .i64 n0_4, .int .i64 n0_5] := by
    have CI : Try.prog.cellsOf 3 = 1 := by kernel_rfl
    have CPosition : Try.prog.cellsOf 23 = 3 := by kernel_rfl
    obtain ⟨cs, rfl, hsz⟩ := okWide_struct Try.underlying25 (hval 0 25 v0 rfl rfl)
    obtain ⟨c0, c1, c2, c3, c4, c5, rfl⟩ := arr6 (hsz.trans (by kernel_rfl))
    obtain ⟨fuel, hf⟩ := h0
    simp only [Value.cells] at hf
    obtain ⟨sy0, sy1, sn, sg0, sg1⟩ := str2 Try.underlying25 hf
    simp only [CPosition, List.drop, List.take] at sg0
    obtain ⟨s0qy0, s0qy1, s0qy2, s0qn, s0qg0, s0qg1, s0qg2⟩ := str3 Try.underlying23 sg0
    simp only [CI, List.drop, List.take] at s0qg0
    obtain ⟨s0qx0, s0qe0, _, _⟩ := DataW.trod_int Try.underlying3 s0qg0
    simp at s0qe0
    simp only [CI, List.drop, List.take] at s0qg1
    obtain ⟨s0qx1, s0qe1, _, _⟩ := DataW.trod_int Try.underlying3 s0qg1
    simp at s0qe1
    simp only [CI, List.drop, List.take] at s0qg2
    obtain ⟨s0qx2, s0qe2, _, _⟩ := DataW.trod_int Try.underlying3 s0qg2
    simp at s0qe2
    simp only [CPosition, List.drop, List.take] at sg1
    obtain ⟨s1qy0, s1qy1, s1qy2, s1qn, s1qg0, s1qg1, s1qg2⟩ := str3 Try.underlying23 sg1
    simp only [CI, List.drop, List.take] at s1qg0
    obtain ⟨s1qx0, s1qe0, _, _⟩ := DataW.trod_int Try.underlying3 s1qg0
    simp at s1qe0
    simp only [CI, List.drop, List.take] at s1qg1
    obtain ⟨s1qx1, s1qe1, _, _⟩ := DataW.trod_int Try.underlying3 s1qg1
    simp at s1qe1
    simp only [CI, List.drop, List.take] at s1qg2
    obtain ⟨s1qx2, s1qe2, _, _⟩ := DataW.trod_int Try.underlying3 s1qg2
    simp at s1qe2
    exact ⟨s0qx0, s0qx1, s0qx2, s1qx0, s1qx1, s1qx2, by simp [s0qe0, s0qe1, s0qe2, s1qe0, s1qe1, s1qe2]⟩
  have k1 := h1
  have lt1 : ∀ x ∈ p1, x.block < W.heap.size := by obtain ⟨m, hm⟩ := k1; exact DataW.trod_lt m _ _ _ hm
  obtain ⟨n1_0, n1_1, n1_2, n1_3, n1_4, n1_5, rfl⟩ : ∃ n1_0 n1_1 n1_2 n1_3 n1_4 n1_5 : Int, v1 = .agg #[.int .i64 n1_0, .int .i64 n1_1, .int .i64 n1_2, .int .i64 n1_3, .int .i64 n1_4, .int .i64 n1_5] := by
    have CI : Try.prog.cellsOf 3 = 1 := by kernel_rfl
    have CPosition : Try.prog.cellsOf 23 = 3 := by kernel_rfl
    obtain ⟨cs, rfl, hsz⟩ := okWide_struct Try.underlying25 (hval 1 25 v1 rfl rfl)
    obtain ⟨c0, c1, c2, c3, c4, c5, rfl⟩ := arr6 (hsz.trans (by kernel_rfl))
    obtain ⟨fuel, hf⟩ := h1
    simp only [Value.cells] at hf
    obtain ⟨sy0, sy1, sn, sg0, sg1⟩ := str2 Try.underlying25 hf
    simp only [CPosition, List.drop, List.take] at sg0
    obtain ⟨s0qy0, s0qy1, s0qy2, s0qn, s0qg0, s0qg1, s0qg2⟩ := str3 Try.underlying23 sg0
    simp only [CI, List.drop, List.take] at s0qg0
    obtain ⟨s0qx0, s0qe0, _, _⟩ := DataW.trod_int Try.underlying3 s0qg0
    simp at s0qe0
    simp only [CI, List.drop, List.take] at s0qg1
    obtain ⟨s0qx1, s0qe1, _, _⟩ := DataW.trod_int Try.underlying3 s0qg1
    simp at s0qe1
    simp only [CI, List.drop, List.take] at s0qg2
    obtain ⟨s0qx2, s0qe2, _, _⟩ := DataW.trod_int Try.underlying3 s0qg2
    simp at s0qe2
    simp only [CPosition, List.drop, List.take] at sg1
    obtain ⟨s1qy0, s1qy1, s1qy2, s1qn, s1qg0, s1qg1, s1qg2⟩ := str3 Try.underlying23 sg1
    simp only [CI, List.drop, List.take] at s1qg0
    obtain ⟨s1qx0, s1qe0, _, _⟩ := DataW.trod_int Try.underlying3 s1qg0
    simp at s1qe0
    simp only [CI, List.drop, List.take] at s1qg1
    obtain ⟨s1qx1, s1qe1, _, _⟩ := DataW.trod_int Try.underlying3 s1qg1
    simp at s1qe1
    simp only [CI, List.drop, List.take] at s1qg2
    obtain ⟨s1qx2, s1qe2, _, _⟩ := DataW.trod_int Try.underlying3 s1qg2
    simp at s1qe2
    exact ⟨s0qx0, s0qx1, s0qx2, s1qx0, s1qx1, s1qx2, by simp [s0qe0, s0qe1, s0qe2, s1qe0, s1qe1, s1qe2]⟩
  have k2 := h2
  have lt2 : ∀ x ∈ p2, x.block < W.heap.size := by obtain ⟨m, hm⟩ := k2; exact DataW.trod_lt m _ _ _ hm
  obtain ⟨n2_0, n2_1, n2_2, rfl⟩ : ∃ n2_0 n2_1 n2_2 : Int, v2 = .agg #[.int .i64 n2_0, .int .i64 n2_1, .int .i64 n2_2] := by
    have CI : Try.prog.cellsOf 3 = 1 := by kernel_rfl
    obtain ⟨cs, rfl, hsz⟩ := okWide_struct Try.underlying23 (hval 2 23 v2 rfl rfl)
    obtain ⟨c0, c1, c2, rfl⟩ := arr3 (hsz.trans (by kernel_rfl))
    obtain ⟨fuel, hf⟩ := h2
    simp only [Value.cells] at hf
    obtain ⟨sy0, sy1, sy2, sn, sg0, sg1, sg2⟩ := str3 Try.underlying23 hf
    simp only [CI, List.drop, List.take] at sg0
    obtain ⟨sx0, se0, _, _⟩ := DataW.trod_int Try.underlying3 sg0
    simp at se0
    simp only [CI, List.drop, List.take] at sg1
    obtain ⟨sx1, se1, _, _⟩ := DataW.trod_int Try.underlying3 sg1
    simp at se1
    simp only [CI, List.drop, List.take] at sg2
    obtain ⟨sx2, se2, _, _⟩ := DataW.trod_int Try.underlying3 sg2
    simp at se2
    exact ⟨sx0, sx1, sx2, by simp [se0, se1, se2]⟩
  obtain ⟨a3, len3, cap3, rfl⟩ := okWide_slice Try.underlying26 (hval 3 26 v3 rfl rfl)
  have k3 := h3
  have lt3 : ∀ x ∈ p3, x.block < W.heap.size := by obtain ⟨m, hm⟩ := k3; exact DataW.trod_lt m _ _ _ hm
  obtain ⟨z3, w3⟩ : ∃ zs, IsRow .i64 W a3 len3 cap3 zs := by
    obtain ⟨fuel, hf⟩ := h3
    rcases open_ints Try.underlying26 Try.underlying3 (by kernel_rfl) hf with ⟨hcs, _⟩ | ⟨x, l, c, zs, hcs, _, hl, hm, hz, _, hcell, hwz⟩
    · simp [Value.cells] at hcs
      obtain ⟨rfl, rfl, rfl⟩ := hcs
      exact ⟨[], .inl ⟨rfl, rfl, rfl, rfl⟩⟩
    · simp [Value.cells] at hcs
      obtain ⟨rfl, rfl, rfl⟩ := hcs
      exact ⟨zs, .inr ⟨_, rfl, hl, hm, by simpa using hz, hcell, hwz⟩⟩
  clear hA0 hval0
  refine (walk n0_0 n0_1 n0_2 n0_3 n0_4 n0_5 n1_0 n1_1 n1_2 n1_3 n1_4 n1_5 n2_0 n2_1 n2_2 a3 len3 cap3 z3 W w3).mono fun e W' ⟨he, bel⟩ => ?_
  subst he
  exact ⟨_, rfl, _, _, _, [], _, [], hW', trodAll_mk1 (shut_bool Try.underlying4 _), (trodAll_cons_mk (Below.trod laidOut (by kernel_rfl) (of_decide_eq_true (by kernel_rfl)) k0 bel lt0) (trodAll_cons_mk (Below.trod laidOut (by kernel_rfl) (of_decide_eq_true (by kernel_rfl)) k1 bel lt1) (trodAll_cons_mk (Below.trod laidOut (by kernel_rfl) (of_decide_eq_true (by kernel_rfl)) k2 bel lt2) (trodAll_cons_mk (Below.trod laidOut (by kernel_rfl) (of_decide_eq_true (by kernel_rfl)) k3 bel lt3) trodAll_mk0)))), rfl, bel.frame _, fun h => by cases h⟩

theorem over : Rows.geometryBoxesRow.holds Try.pinned (OpenSpec.ofChange Rows.geometryBoxesSpec) :=
  OpenClaim.holds_of_wide 3 Try.f3 rfl rfl rfl rfl rfl rfl rfl ⟨rfl, rfl, rfl, rfl, rfl⟩ rfl rfl rfl rfl rfl (by kernel_rfl) Try.func3 (by kernel_rfl)
    (of_decide_eq_true (by kernel_rfl)) (by unfold Func.isWrapper; first | (rw [if_pos (by decide +kernel)]; kernel_rfl) | (rw [if_neg (by decide +kernel)]; exact ⟨rfl, rfl⟩))
    (fun os started H enc _ => lifted os started H enc)

theorem proved : Rows.GeometryBoxesSaid := over
#print axioms proved
end Go.Proofs.Ytklgnbimfobgkaa.geometryBoxes
