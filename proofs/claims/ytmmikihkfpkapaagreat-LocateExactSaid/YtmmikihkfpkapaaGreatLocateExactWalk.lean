/- The walk of LocateExact. -/
import Derived.Test.YtmmikihkfpkapaaGreatLocGW
import Derived.Test.YtmmikihkfpkapaaGreatRmAG
import Derived.Test.YtmmikihkfpkapaaGreatMisP
import Derived.Laws.StructEq
import Derived.Deep.DeepCutAuto
set_option linter.unusedVariables false
set_option linter.unusedSimpArgs false
namespace Go.Proofs.YtmmikihkfpkapaaGreat
open Go.RowKit
namespace Laws
open _root_.Go.Proofs.YtmmikihkfpkapaaGreat.Loc
theorem box_eq (a b c d e f : Int) (w : World) : (binOp .eql 28 (.agg #[.int .i64 a, .int .i64 b, .int .i64 c, .int .i64 d, .int .i64 e, .int .i64 f]) (.agg #[.int .i64 a, .int .i64 b, .int .i64 c, .int .i64 d, .int .i64 e, .int .i64 f])).run Tryz.prog w = .ok (.bool true) w := by
  go_simp
theorem c12 {w : World} {g : Nat} {v0 v1 v2 v3 v4 v5 v6 v7 v8 v9 v10 v11 : Value} {t : TypeId} (h : w.heap[g]? = some (.cells #[v0, v1, v2, v3, v4, v5, v6, v7, v8, v9, v10, v11] t (0, 0))) : w.cell? ⟨g, 0, none⟩ = some v0 ∧ w.cell? ⟨g, 1, none⟩ = some v1 ∧ w.cell? ⟨g, 2, none⟩ = some v2 ∧ w.cell? ⟨g, 4, none⟩ = some v4 ∧ w.cell? ⟨g, 5, none⟩ = some v5 ∧ w.cell? ⟨g, 6, none⟩ = some v6 ∧ w.cell? ⟨g, 7, none⟩ = some v7 ∧ w.cell? ⟨g, 8, none⟩ = some v8 ∧ w.cell? ⟨g, 9, none⟩ = some v9 ∧ w.cell? ⟨g, 10, none⟩ = some v10 ∧ w.cell? ⟨g, 11, none⟩ = some v11 :=
  ⟨cell_of_row w g 0 _ _ _ h, cell_of_row w g 1 _ _ _ h, cell_of_row w g 2 _ _ _ h, cell_of_row w g 4 _ _ _ h, cell_of_row w g 5 _ _ _ h, cell_of_row w g 6 _ _ _ h, cell_of_row w g 7 _ _ _ h, cell_of_row w g 8 _ _ _ h, cell_of_row w g 9 _ _ _ h, cell_of_row w g 10 _ _ _ h, cell_of_row w g 11 _ _ _ h⟩
set_option maxHeartbeats 16000000 in
set_option maxRecDepth 100000 in
theorem locateExact_walk (a0 : Option Addr) (len0 cap0 : Nat) (z0 : List Int) (w : World) (w0 : Buf.IsRow .i64 w a0 len0 cap0 z0) :
    Calls Tryz.prog 3 #[.slice a0 len0 cap0] w fun e w' => e = .returned (.bool true) ∧ Below w.heap.size w w' := by
  have AW := Lib.hid Loc.awake_any
  go_enter Tryz.func3, Tryz.ntmps3
  go_wp2_with fail
  refine (Src.new_any a0 len0 cap0 z0 w w0).mono ?_
  rintro e0 wA ⟨rfl, m, hd⟩
  have L0 := Lib.hid (Src.Left.refl hd)
  clear hd w0
  go_wp2_with fail
  refine (Mis.problem_any 5 5 (by decide) (by decide) (by decide) (by decide) L0.out.di).mono ?_
  rintro e0 w2 ⟨⟨a1, a2, a3, d1, d2, d3, s, b1, b2, n, c1, c2, lo, hi, gp, cpp, L, cp, nl, rfl, hnl, P⟩, hl⟩
  have B2 := Lib.hid (L0.out.trans hl).di.bel
  have PG := Lib.hid P
  have Hn := Lib.hid hnl
  have hcp' : nl ≤ cpp := by have := P.le; omega
  clear hl P L0 hnl
  obtain ⟨w3, hw3⟩ : ∃ w3, w3 = w2.alloc (.cells #[.int .i64 a1, .int .i64 a2, .int .i64 a3, .int .i64 d1, .int .i64 d2, .int .i64 d3, .int .i64 s, .slice (some ⟨b1, 0, none⟩) n c1, .slice (some ⟨b2, 0, none⟩) n c2, .slice (some ⟨gp, 0, none⟩) nl cpp, .int .i64 cp] 33) := ⟨_, rfl⟩
  have Y1 : Below w2.heap.size w2 w3 := by rw [hw3]; exact Mis.new_block _
  have K3 := Lib.hid (show w3.heap[w2.heap.size]? = some (.cells #[.int .i64 a1, .int .i64 a2, .int .i64 a3, .int .i64 d1, .int .i64 d2, .int .i64 d3, .int .i64 s, .slice (some ⟨b1, 0, none⟩) n c1, .slice (some ⟨b2, 0, none⟩) n c2, .slice (some ⟨gp, 0, none⟩) nl cpp, .int .i64 cp] 33 (0, 0)) by rw [hw3]; exact heap_alloc_new w2 _)
  go_upto_region 3 with fail
  rw [← hw3]
  obtain ⟨p4, hp4⟩ : ∃ z, z = w2.heap.size := ⟨_, rfl⟩
  rw [← hp4] at K3 ⊢
  have W3 := PG.out.tv.below Y1
  have R3 := PG.out.pr.below Y1
  have B3 := Lib.hid (Buf.then_ B2.out Y1)
  clear hw3 hp4 Y1 B2
  have hR := PG.out.rg (by decide)
  obtain ⟨SP, hSP⟩ := spl_of (R := ⟨a1, a2, a3, d1, d2, d3⟩) hR.bv
  have n9 : L.length ≤ 64 := by have := PG.out.n9; omega
  have c9 : cp ≤ 2000 := by have := PG.out.c9; omega
  have rv : Sb ⟨a1, a2, a3, d1, d2, d3⟩ ⟨a1, a2, a3, d1, d2, d3⟩ := ⟨Int.le_refl _, Int.le_refl _, Int.le_refl _, Int.le_refl _, Int.le_refl _, Int.le_refl _, hR.bv.x, hR.bv.y, hR.bv.z⟩
  have few := few_of 5 (by decide) rv PG.out.s1 PG.out.s2 PG.out.s3
  have P := pr_of (R := ⟨a1, a2, a3, d1, d2, d3⟩) hR W3 PG.out.ph.s PG.out.n1 n9 PG.out.c0 c9 R3 Hn.out hcp' c1 c2 hSP few
  have HM := mono_of (R := ⟨a1, a2, a3, d1, d2, d3⟩) hR W3 PG.out.ph.s PG.out.n1 PG.out.c0
  have FA := fin_all' P 0 (by decide) HM
  have LO := locate_any P 0 (by decide) (by decide) FA.1 FA.2.1
  obtain ⟨f1, f2, f3, f4, f5⟩ := fin_zero FA.2.2
  rw [f1, f2] at LO
  have LE : Hid (∀ (w' : World), Below w3.heap.size w3 w' → Calls Tryz.prog 7 #[.agg #[.int .i64 a1, .int .i64 a2, .int .i64 a3, .int .i64 d1, .int .i64 d2, .int .i64 d3, .int .i64 s, .slice (some ⟨b1, 0, none⟩) n c1, .slice (some ⟨b2, 0, none⟩) n c2, .slice (some ⟨gp, 0, none⟩) nl cpp, .int .i64 cp]] w' fun r w'' => r = .returned (.int .i64 (fin ⟨Fm s lo hi cp L, Gm s lo hi cp L, SP⟩ ⟨a1, a2, a3, d1, d2, d3⟩ 0).m) ∧ Below w'.heap.size w' w'') := Lib.hid fun w' hb' => by
    refine (Mis.rleast_any (w := w') hR (W3.below hb') PG.out.ph.s PG.out.n1 n9 PG.out.c0 c9 (R3.below hb') Hn.out hcp' c1 c2 (by have := PG.out.s1; omega) (by have := PG.out.s2; omega) (by have := PG.out.s3; omega)).mono ?_
    rintro r w'' ⟨⟨v, rfl, ⟨p, hp1, hp2⟩, hp3⟩, hb2⟩
    refine ⟨?_, hb2⟩
    have g1 := f3 p hp1
    have g2 := hp3 _ f4
    rw [show (Mis.mf s lo hi cp p.1 p.2.1 p.2.2 p.1 p.2.1 p.2.2 L).2 = (Gm s lo hi cp L p).2 from rfl] at hp2
    have g3 : v ≤ (fin ⟨Fm s lo hi cp L, Gm s lo hi cp L, SP⟩ ⟨a1, a2, a3, d1, d2, d3⟩ 0).m := by rw [← f5]; exact g2
    have g4 : (fin ⟨Fm s lo hi cp L, Gm s lo hi cp L, SP⟩ ⟨a1, a2, a3, d1, d2, d3⟩ 0).m ≤ v := by rw [hp2]; exact g1
    rw [Int.le_antisymm g3 g4]
  generalize fin ⟨Fm s lo hi cp L, Gm s lo hi cp L, SP⟩ ⟨a1, a2, a3, d1, d2, d3⟩ 0 = FN at *
  obtain ⟨x, y, z, t, mm, ex, ey, ez, et, em⟩ : ∃ x y z t mm : Int, FN.x = x ∧ FN.y = y ∧ FN.z = z ∧ FN.t = t ∧ FN.m = mm := ⟨_, _, _, _, _, rfl, rfl, rfl, rfl, rfl⟩
  have LO2 : Hid (Calls Tryz.prog 6 #[.agg #[.int .i64 a1, .int .i64 a2, .int .i64 a3, .int .i64 d1, .int .i64 d2, .int .i64 d3, .int .i64 s, .slice (some ⟨b1, 0, none⟩) n c1, .slice (some ⟨b2, 0, none⟩) n c2, .slice (some ⟨gp, 0, none⟩) nl cpp, .int .i64 cp], .int .i64 0] w3 fun e w' => e = .returned (.tuple #[.agg #[.int .i64 x, .int .i64 y, .int .i64 z, .int .i64 t, .int .i64 mm, .int .i64 mm, .int .i64 x, .int .i64 y, .int .i64 z, .int .i64 x, .int .i64 y, .int .i64 z], .int .i64 0]) ∧ Below w3.heap.size w3 w') := Lib.hid (by
    have e : (lrow FN FN.m (pb (FN.x, FN.y, FN.z))).toArray = #[.int .i64 x, .int .i64 y, .int .i64 z, .int .i64 t, .int .i64 mm, .int .i64 mm, .int .i64 x, .int .i64 y, .int .i64 z, .int .i64 x, .int .i64 y, .int .i64 z] := by rw [← ex, ← ey, ← ez, ← et, ← em]; rfl
    rw [e] at LO
    exact LO)
  rw [em] at LE
  clear LO f1 f2 f3 f4 f5 FA HM P few rv hR W3 R3 hSP n9 c9 PG ex ey ez et em
  obtain ⟨q0, q1, q2, q3, q4, q5, q6, q7, q8, q9, q10⟩ := Mis.c11 K3.out
  go_wp2_with fail
  with_reducible refine LO2.out.mono ?_
  rintro e0 w5 ⟨rfl, hb5⟩
  have B5 := Lib.hid hb5
  clear hb5 LO2 q0 q1 q2 q3 q4 q5 q6 q7 q8 q9 q10
  obtain ⟨w6, hw6⟩ : ∃ wz_, wz_ = w5.alloc (.cells #[.int .i64 x, .int .i64 y, .int .i64 z, .int .i64 t, .int .i64 mm, .int .i64 mm, .int .i64 x, .int .i64 y, .int .i64 z, .int .i64 x, .int .i64 y, .int .i64 z] 36) := ⟨_, rfl⟩
  have Y6 : Below w5.heap.size w5 w6 := by rw [hw6]; exact Mis.new_block _
  have K6 := Lib.hid (show w6.heap[w5.heap.size]? = some (.cells #[.int .i64 x, .int .i64 y, .int .i64 z, .int .i64 t, .int .i64 mm, .int .i64 mm, .int .i64 x, .int .i64 y, .int .i64 z, .int .i64 x, .int .i64 y, .int .i64 z] 36 (0, 0)) by rw [hw6]; exact heap_alloc_new w5 _)
  go_upto_region 4 with fail
  rw [← hw6]
  obtain ⟨p5, hp5⟩ : ∃ z, z = w5.heap.size := ⟨_, rfl⟩
  rw [← hp5] at K6 ⊢
  have B6 := Lib.hid (Buf.then_ B5.out Y6)
  clear hw6 hp5 Y6 B5
  have dm : (mm == mm) = true := by simp
  have be := box_eq x y z x y z
  have E1 := Lib.hid fun w' (h' : Below w6.heap.size w6 w') => c12 (Mis.hb h' K6.out)
  have E2 := Lib.hid fun w' (h' : Below w6.heap.size w6 w') => Mis.c11 (Mis.hb (Buf.then_ B6.out h') K3.out)
  refine Buf.region_calm w6 (by kernel_rfl) (by kernel_rfl) (Below.refl _ _) ?_
  repeat (go_big_quiet_step ((intro hC; first
    | (go_at_call 7; with_reducible exact Buf.calm hC (LE.out _ (Buf.then_ B6.out hC)))
    | (go_at_call 8; with_reducible exact Buf.calm hC (AW.out _))
    | rfl
    | (obtain ⟨k0, k1, k2, k4, k5, k6, k7, k8, k9, k10, k11⟩ := E1.out _ hC; simp only [k0, k1, k2, k4, k5, k6, k7, k8, k9, k10, k11, Result.andThen_ok]; first | exact ⟨trivial, rfl⟩ | rfl)
    | (obtain ⟨q0, q1, q2, q3, q4, q5, q6, q7, q8, q9, q10⟩ := E2.out _ hC; simp only [q0, q1, q2, q3, q4, q5, q6, q7, q8, q9, q10, Result.andThen_ok]; first | exact ⟨trivial, rfl⟩ | rfl))))
  refine wpQuiet_nil ?_
  intro w7 b7
  go_wp2_with fail
  go_ret
  exact ⟨rfl, Buf.then_ B3.out (Buf.then_ B6.out b7)⟩
end Laws
end Go.Proofs.YtmmikihkfpkapaaGreat
