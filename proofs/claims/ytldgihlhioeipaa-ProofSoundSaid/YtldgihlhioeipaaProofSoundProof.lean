/-
  ProofSound: at every input the law returns true and leaves its arguments as they were. No conditions.
-/
import Derived.Test.YtldgihlhioeipaaRows
import Derived.Test.YtldgihlhioeipaaProofSoundWalk
import Derived.WalkKit
import Derived.ProofKit
import Derived.OpenShut
import Derived.ShutString
import Derived.ChangeOld
import Derived.Below
import Derived.Lib.SmallJoins
import Derived.ChangeArms
namespace Go.Proofs.Ytldgihlhioeipaa.proofSound
open Go.ChangeShapes Go.WideShapes Go.ChangeAt Go.RowKit Go.Joins
set_option linter.unusedVariables false
set_option linter.unusedSimpArgs false

theorem own : ownKnob Try.prog.godebug = none := by kernel_rfl
theorem laidOut : laidOutB Try.prog = true := by kernel_rfl

open Go.Proofs.Ytldgihlhioeipaa.Buf (IsRow)

theorem arr12 {α : Type} {cs : Array α} (h : cs.size = 12) : ∃ c0 c1 c2 c3 c4 c5 c6 c7 c8 c9 c10 c11, cs = #[c0, c1, c2, c3, c4, c5, c6, c7, c8, c9, c10, c11] := by
  obtain ⟨l⟩ := cs
  match l, h with
  | [c0, c1, c2, c3, c4, c5, c6, c7, c8, c9, c10, c11], _ => exact ⟨c0, c1, c2, c3, c4, c5, c6, c7, c8, c9, c10, c11, rfl⟩
theorem str2 {H : Type} {enc : TypeId × Value → H} {P : Program} {w : World} {base : Nat} {spare : Nat → Bool} {held : Bool} {t : TypeId} {f0 f1 : Field} {fuel : Nat} {cs : List Value} {x : DataW H × List MemPlace} (ht : P.underlying t = some (.struct #[f0, f1])) (h : DataW.trod enc P w base spare held fuel t cs = some x) :
    ∃ y0 y1 n, DataW.trod enc P w base spare held n f0.type ((cs.drop f0.offset).take (P.cellsOf f0.type)) = some y0 ∧ DataW.trod enc P w base spare held n f1.type ((cs.drop f1.offset).take (P.cellsOf f1.type)) = some y1 := by
  obtain ⟨xs, n, _, rfl, hl, hlen, hf⟩ := DataW.trod_struct ht h
  match xs, hlen with
  | [y0, y1], _ => exact ⟨y0, y1, n, by simpa using hf 0 f0 rfl, by simpa using hf 1 f1 rfl⟩
theorem str3 {H : Type} {enc : TypeId × Value → H} {P : Program} {w : World} {base : Nat} {spare : Nat → Bool} {held : Bool} {t : TypeId} {f0 f1 f2 : Field} {fuel : Nat} {cs : List Value} {x : DataW H × List MemPlace} (ht : P.underlying t = some (.struct #[f0, f1, f2])) (h : DataW.trod enc P w base spare held fuel t cs = some x) :
    ∃ y0 y1 y2 n, DataW.trod enc P w base spare held n f0.type ((cs.drop f0.offset).take (P.cellsOf f0.type)) = some y0 ∧ DataW.trod enc P w base spare held n f1.type ((cs.drop f1.offset).take (P.cellsOf f1.type)) = some y1 ∧ DataW.trod enc P w base spare held n f2.type ((cs.drop f2.offset).take (P.cellsOf f2.type)) = some y2 := by
  obtain ⟨xs, n, _, rfl, hl, hlen, hf⟩ := DataW.trod_struct ht h
  match xs, hlen with
  | [y0, y1, y2], _ => exact ⟨y0, y1, y2, n, by simpa using hf 0 f0 rfl, by simpa using hf 1 f1 rfl, by simpa using hf 2 f2 rfl⟩
theorem str5 {H : Type} {enc : TypeId × Value → H} {P : Program} {w : World} {base : Nat} {spare : Nat → Bool} {held : Bool} {t : TypeId} {f0 f1 f2 f3 f4 : Field} {fuel : Nat} {cs : List Value} {x : DataW H × List MemPlace} (ht : P.underlying t = some (.struct #[f0, f1, f2, f3, f4])) (h : DataW.trod enc P w base spare held fuel t cs = some x) :
    ∃ y0 y1 y2 y3 y4 n, DataW.trod enc P w base spare held n f0.type ((cs.drop f0.offset).take (P.cellsOf f0.type)) = some y0 ∧ DataW.trod enc P w base spare held n f1.type ((cs.drop f1.offset).take (P.cellsOf f1.type)) = some y1 ∧ DataW.trod enc P w base spare held n f2.type ((cs.drop f2.offset).take (P.cellsOf f2.type)) = some y2 ∧ DataW.trod enc P w base spare held n f3.type ((cs.drop f3.offset).take (P.cellsOf f3.type)) = some y3 ∧ DataW.trod enc P w base spare held n f4.type ((cs.drop f4.offset).take (P.cellsOf f4.type)) = some y4 := by
  obtain ⟨xs, n, _, rfl, hl, hlen, hf⟩ := DataW.trod_struct ht h
  match xs, hlen with
  | [y0, y1, y2, y3, y4], _ => exact ⟨y0, y1, y2, y3, y4, n, by simpa using hf 0 f0 rfl, by simpa using hf 1 f1 rfl, by simpa using hf 2 f2 rfl, by simpa using hf 3 f3 rfl, by simpa using hf 4 f4 rfl⟩
theorem walk (a0 : Option Addr) (len0 cap0 : Nat) (z0 : List Int) (a1 : Option Addr) (len1 cap1 : Nat) (z1 : List Int) (n2_0 n2_1 n2_2 n2_3 n2_4 n2_5 n2_6 n2_7 n2_8 n2_9 n2_10 n2_11 : Int) (w : World) (w0 : IsRow .i64 w a0 len0 cap0 z0) (w1 : IsRow .i64 w a1 len1 cap1 z1) :
    Calls Try.prog 3 #[.slice a0 len0 cap0, .slice a1 len1 cap1, .agg #[.int .i64 n2_0, .int .i64 n2_1, .int .i64 n2_2, .int .i64 n2_3, .int .i64 n2_4, .int .i64 n2_5, .int .i64 n2_6, .int .i64 n2_7, .int .i64 n2_8, .int .i64 n2_9, .int .i64 n2_10, .int .i64 n2_11]] w fun e w' => e = .returned (.bool true) ∧ Below w.heap.size w w' := by
  exact Laws.proofSound_walk a0 len0 cap0 z0 a1 len1 cap1 z1 n2_0 n2_1 n2_2 n2_3 n2_4 n2_5 n2_6 n2_7 n2_8 n2_9 n2_10 n2_11 w w0 w1

set_option maxRecDepth 100000 in
theorem lifted (os : Os) (started : os.Started) (H : Type) (enc : TypeId × Value → H) :
    ReturnsInHanded {} Try.checked os 3 .any (Rows.proofSoundSpec.pre6 enc Try.prog Try.f3 Rows.proofSoundRow.domain false) (Rows.proofSoundSpec.post enc Try.prog Try.f3 false true false false) := by
  refine returnsInHanded_of_change (C := Try.checked) own started (by kernel_rfl) Try.func3
    (ChangeSpec.witness6 (enc := enc) (C := Try.checked) false ⟨#[], #[.slice none 0 0, .slice none 0 0, .agg #[.int .i64 0, .int .i64 0, .int .i64 0, .int .i64 0, .int .i64 0, .int .i64 0, .int .i64 0, .int .i64 0, .int .i64 0, .int .i64 0, .int .i64 0, .int .i64 0]], []⟩ 8 (by kernel_rfl) (by kernel_rfl) (by kernel_rfl) (by kernel_rfl)) ?_
  intro W base args ds gs before hval0 hW hcnd _
  have hval : ∀ (j : Nat) t v, Try.f3.params[j]? = some t → args[j]? = some v → Value.okWide Try.prog W .any base t v := hval0
  have hW' := hW
  obtain ⟨p, q, hA0, hV, rfl, hfz, hnd⟩ := hW
  have hA : DataW.TrodAll enc Try.prog W 0 (fun _ => true) true Try.f3.params.toList args.toList ds p := hA0
  rw [Try.params3] at hA hval
  obtain ⟨v0, vs0, d0, ds0, p0, q0, hargs, rfl, rfl, h0, r0⟩ := trodAll_cons hA
  obtain ⟨v1, vs1, d1, ds1, p1, q1, rfl, rfl, rfl, h1, r1⟩ := trodAll_cons r0
  obtain ⟨v2, vs2, d2, ds2, p2, q2, rfl, rfl, rfl, h2, r2⟩ := trodAll_cons r1
  obtain ⟨rfl, rfl, rfl⟩ := trodAll_nil r2
  obtain rfl : args = #[v0, v1, v2] := by cases args; simp_all
  obtain ⟨rfl, rfl⟩ := trodVars_none hV
  obtain ⟨a0, len0, cap0, rfl⟩ := okWide_slice Try.underlying22 (hval 0 22 v0 rfl rfl)
  have k0 := h0
  have lt0 : ∀ x ∈ p0, x.block < W.heap.size := by obtain ⟨m, hm⟩ := k0; exact DataW.trod_lt m _ _ _ hm
  obtain ⟨z0, w0⟩ : ∃ zs, IsRow .i64 W a0 len0 cap0 zs := by
    obtain ⟨fuel, hf⟩ := h0
    rcases open_ints Try.underlying22 Try.underlying3 (by kernel_rfl) hf with ⟨hcs, _⟩ | ⟨x, l, c, zs, hcs, _, hl, hm, hz, _, hcell, hwz⟩
    · simp [Value.cells] at hcs
      obtain ⟨rfl, rfl, rfl⟩ := hcs
      exact ⟨[], .inl ⟨rfl, rfl, rfl, rfl⟩⟩
    · simp [Value.cells] at hcs
      obtain ⟨rfl, rfl, rfl⟩ := hcs
      exact ⟨zs, .inr ⟨_, rfl, hl, hm, by simpa using hz, hcell, hwz⟩⟩
  obtain ⟨a1, len1, cap1, rfl⟩ := okWide_slice Try.underlying22 (hval 1 22 v1 rfl rfl)
  have k1 := h1
  have lt1 : ∀ x ∈ p1, x.block < W.heap.size := by obtain ⟨m, hm⟩ := k1; exact DataW.trod_lt m _ _ _ hm
  obtain ⟨z1, w1⟩ : ∃ zs, IsRow .i64 W a1 len1 cap1 zs := by
    obtain ⟨fuel, hf⟩ := h1
    rcases open_ints Try.underlying22 Try.underlying3 (by kernel_rfl) hf with ⟨hcs, _⟩ | ⟨x, l, c, zs, hcs, _, hl, hm, hz, _, hcell, hwz⟩
    · simp [Value.cells] at hcs
      obtain ⟨rfl, rfl, rfl⟩ := hcs
      exact ⟨[], .inl ⟨rfl, rfl, rfl, rfl⟩⟩
    · simp [Value.cells] at hcs
      obtain ⟨rfl, rfl, rfl⟩ := hcs
      exact ⟨zs, .inr ⟨_, rfl, hl, hm, by simpa using hz, hcell, hwz⟩⟩
  have k2 := h2
  have lt2 : ∀ x ∈ p2, x.block < W.heap.size := by obtain ⟨m, hm⟩ := k2; exact DataW.trod_lt m _ _ _ hm
  obtain ⟨n2_0, n2_1, n2_2, n2_3, n2_4, n2_5, n2_6, n2_7, n2_8, n2_9, n2_10, n2_11, rfl⟩ : ∃ n2_0 n2_1 n2_2 n2_3 n2_4 n2_5 n2_6 n2_7 n2_8 n2_9 n2_10 n2_11 : Int, v2 = .agg #[.int .i64 n2_0, .int .i64 n2_1, .int .i64 n2_2, .int .i64 n2_3, .int .i64 n2_4, .int .i64 n2_5, .int .i64 n2_6, .int .i64 n2_7, .int .i64 n2_8, .int .i64 n2_9, .int .i64 n2_10, .int .i64 n2_11] := by
    have CI : Try.prog.cellsOf 3 = 1 := by kernel_rfl
    have CBox : Try.prog.cellsOf 26 = 6 := by kernel_rfl
    have CPosition : Try.prog.cellsOf 24 = 3 := by kernel_rfl
    obtain ⟨cs, rfl, hsz⟩ := okWide_struct Try.underlying28 (hval 2 28 v2 rfl rfl)
    obtain ⟨c0, c1, c2, c3, c4, c5, c6, c7, c8, c9, c10, c11, rfl⟩ := arr12 (hsz.trans (by kernel_rfl))
    obtain ⟨fuel, hf⟩ := h2
    simp only [Value.cells] at hf
    obtain ⟨sy0, sy1, sy2, sy3, sy4, sn, sg0, sg1, sg2, sg3, sg4⟩ := str5 Try.underlying28 hf
    simp only [CPosition, List.drop, List.take] at sg0
    obtain ⟨s0qy0, s0qy1, s0qy2, s0qn, s0qg0, s0qg1, s0qg2⟩ := str3 Try.underlying24 sg0
    simp only [CI, List.drop, List.take] at s0qg0
    obtain ⟨s0qx0, s0qe0, _, _⟩ := DataW.trod_int Try.underlying3 s0qg0
    simp at s0qe0
    simp only [CI, List.drop, List.take] at s0qg1
    obtain ⟨s0qx1, s0qe1, _, _⟩ := DataW.trod_int Try.underlying3 s0qg1
    simp at s0qe1
    simp only [CI, List.drop, List.take] at s0qg2
    obtain ⟨s0qx2, s0qe2, _, _⟩ := DataW.trod_int Try.underlying3 s0qg2
    simp at s0qe2
    simp only [CI, List.drop, List.take] at sg1
    obtain ⟨sx1, se1, _, _⟩ := DataW.trod_int Try.underlying3 sg1
    simp at se1
    simp only [CI, List.drop, List.take] at sg2
    obtain ⟨sx2, se2, _, _⟩ := DataW.trod_int Try.underlying3 sg2
    simp at se2
    simp only [CI, List.drop, List.take] at sg3
    obtain ⟨sx3, se3, _, _⟩ := DataW.trod_int Try.underlying3 sg3
    simp at se3
    simp only [CBox, List.drop, List.take] at sg4
    obtain ⟨s4qy0, s4qy1, s4qn, s4qg0, s4qg1⟩ := str2 Try.underlying26 sg4
    simp only [CPosition, List.drop, List.take] at s4qg0
    obtain ⟨s4q0qy0, s4q0qy1, s4q0qy2, s4q0qn, s4q0qg0, s4q0qg1, s4q0qg2⟩ := str3 Try.underlying24 s4qg0
    simp only [CI, List.drop, List.take] at s4q0qg0
    obtain ⟨s4q0qx0, s4q0qe0, _, _⟩ := DataW.trod_int Try.underlying3 s4q0qg0
    simp at s4q0qe0
    simp only [CI, List.drop, List.take] at s4q0qg1
    obtain ⟨s4q0qx1, s4q0qe1, _, _⟩ := DataW.trod_int Try.underlying3 s4q0qg1
    simp at s4q0qe1
    simp only [CI, List.drop, List.take] at s4q0qg2
    obtain ⟨s4q0qx2, s4q0qe2, _, _⟩ := DataW.trod_int Try.underlying3 s4q0qg2
    simp at s4q0qe2
    simp only [CPosition, List.drop, List.take] at s4qg1
    obtain ⟨s4q1qy0, s4q1qy1, s4q1qy2, s4q1qn, s4q1qg0, s4q1qg1, s4q1qg2⟩ := str3 Try.underlying24 s4qg1
    simp only [CI, List.drop, List.take] at s4q1qg0
    obtain ⟨s4q1qx0, s4q1qe0, _, _⟩ := DataW.trod_int Try.underlying3 s4q1qg0
    simp at s4q1qe0
    simp only [CI, List.drop, List.take] at s4q1qg1
    obtain ⟨s4q1qx1, s4q1qe1, _, _⟩ := DataW.trod_int Try.underlying3 s4q1qg1
    simp at s4q1qe1
    simp only [CI, List.drop, List.take] at s4q1qg2
    obtain ⟨s4q1qx2, s4q1qe2, _, _⟩ := DataW.trod_int Try.underlying3 s4q1qg2
    simp at s4q1qe2
    exact ⟨s0qx0, s0qx1, s0qx2, sx1, sx2, sx3, s4q0qx0, s4q0qx1, s4q0qx2, s4q1qx0, s4q1qx1, s4q1qx2, by simp [s0qe0, s0qe1, s0qe2, se1, se2, se3, s4q0qe0, s4q0qe1, s4q0qe2, s4q1qe0, s4q1qe1, s4q1qe2]⟩
  clear hA0 hval0
  refine (walk a0 len0 cap0 z0 a1 len1 cap1 z1 n2_0 n2_1 n2_2 n2_3 n2_4 n2_5 n2_6 n2_7 n2_8 n2_9 n2_10 n2_11 W w0 w1).mono fun e W' ⟨he, bel⟩ => ?_
  subst he
  exact ⟨_, rfl, _, _, _, [], _, [], hW', trodAll_mk1 (shut_bool Try.underlying4 _), (trodAll_cons_mk (Below.trod laidOut (by kernel_rfl) (of_decide_eq_true (by kernel_rfl)) k0 bel lt0) (trodAll_cons_mk (Below.trod laidOut (by kernel_rfl) (of_decide_eq_true (by kernel_rfl)) k1 bel lt1) (trodAll_cons_mk (Below.trod laidOut (by kernel_rfl) (of_decide_eq_true (by kernel_rfl)) k2 bel lt2) trodAll_mk0))), rfl, bel.frame _, fun h => by cases h⟩

theorem over : Rows.proofSoundRow.holds Try.pinned (OpenSpec.ofChange Rows.proofSoundSpec) :=
  OpenClaim.holds_of_wide 3 Try.f3 rfl rfl rfl rfl rfl rfl rfl ⟨rfl, rfl, rfl, rfl, rfl⟩ rfl rfl rfl rfl rfl (by kernel_rfl) Try.func3 (by kernel_rfl)
    (of_decide_eq_true (by kernel_rfl)) (by unfold Func.isWrapper; first | (rw [if_pos (by decide +kernel)]; kernel_rfl) | (rw [if_neg (by decide +kernel)]; exact ⟨rfl, rfl⟩))
    (fun os started H enc _ => lifted os started H enc)

theorem proved : Rows.ProofSoundSaid := over
#print axioms proved
end Go.Proofs.Ytldgihlhioeipaa.proofSound
