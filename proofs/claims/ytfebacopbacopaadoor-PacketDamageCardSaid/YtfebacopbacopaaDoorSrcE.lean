/- matchParts, Match, Parse of source. -/
import Derived.Test.YtfebacopbacopaaDoorSrcD
set_option linter.unusedVariables false
set_option linter.unusedSimpArgs false
namespace Go.Proofs.YtfebacopbacopaaDoor
open Go.RowKit Dice
namespace Sc
def m4 (a b c d s0 s1 s2 s3 : List UInt8) : Bool := mp 17 a s0 && (mp 17 b s1 && (mp 17 c s2 && mp 17 d s3))
theorem Src4.len {s0 s1 s2 s3 : List UInt8} (h : Src4 s0 s1 s2 s3) : s0.length ≤ 8 ∧ s1.length ≤ 8 ∧ s2.length ≤ 8 ∧ s3.length ≤ 8 := by
  have := h.l0; have := h.l1; have := h.l2; have := h.l3; omega
theorem and_cases (x y : Bool) : x = false ∨ (x = true ∧ y = false) ∨ (x = true ∧ y = true) := by cases x <;> cases y <;> simp
set_option maxRecDepth 100000 in
set_option maxHeartbeats 4000000 in
theorem matchParts_any {a b c d : List UInt8} (ha : Part a) (hb' : Part b) (hc : Part c) (hd : Part d) {s0 s1 s2 s3 : List UInt8} (h : Src4 s0 s1 s2 s3) (w : World) (g : Nat) (K : At4 w g a b c d) :
    Calls Tryd.prog 39 #[.slice (some ⟨g, 0, none⟩) 4 4, .agg #[.string ⟨⟨s0⟩⟩, .string ⟨⟨s1⟩⟩, .string ⟨⟨s2⟩⟩, .string ⟨⟨s3⟩⟩]] w fun e w' =>
      e = .returned (.bool (m4 a b c d s0 s1 s2 s3)) ∧ Below w.heap.size w w' := by
  obtain ⟨z0, z1, z2, z3⟩ := h.len
  have M0 := Lib.hid fun w' => match_any 17 a s0 (by have := ha.len; omega) ha.len z0 w'
  have M1 := Lib.hid fun w' => match_any 17 b s1 (by have := hb'.len; omega) hb'.len z1 w'
  have M2 := Lib.hid fun w' => match_any 17 c s2 (by have := hc.len; omega) hc.len z2 w'
  have M3 := Lib.hid fun w' => match_any 17 d s3 (by have := hd.len; omega) hd.len z3 w'
  unfold m4
  generalize mp 17 a s0 = r0 at M0 ⊢
  generalize mp 17 b s1 = r1 at M1 ⊢
  generalize mp 17 c s2 = r2 at M2 ⊢
  generalize mp 17 d s3 = r3 at M3 ⊢
  obtain ⟨wb, hwb⟩ : ∃ wb, wb = w.alloc (.cells #[.string ⟨⟨s0⟩⟩, .string ⟨⟨s1⟩⟩, .string ⟨⟨s2⟩⟩, .string ⟨⟨s3⟩⟩] 28) := ⟨_, rfl⟩
  have W1 := Lib.hid (show Below w.heap.size w wb by rw [hwb]; exact new_block _)
  have B1 := Lib.hid (show wb.heap[w.heap.size]? = some (.cells #[.string ⟨⟨s0⟩⟩, .string ⟨⟨s1⟩⟩, .string ⟨⟨s2⟩⟩, .string ⟨⟨s3⟩⟩] 28 (0, 0)) by rw [hwb]; exact heap_alloc_new w _)
  have K1 := Lib.hid (K.next W1.out)
  have E0 := Lib.hid fun w' (h' : Below wb.heap.size wb w') => Rec.c4 (hb h' B1.out)
  have E1 := Lib.hid fun w' (h' : Below wb.heap.size wb w') => Rec.c4 (hb h' K1.out)
  replace hwb := Lib.hid hwb
  clear h K ha hb' hc hd z0 z1 z2 z3
  rcases r0 with _ | _
  · go_enter Tryd.func39, Tryd.ntmps39
    go_upto_region 1 with fail
    rw [← hwb.out]
    clear hwb
    refine Buf.region_calm wb (by kernel_rfl) (by kernel_rfl) (Below.refl _ _) ?_
    repeat (go_big_quiet_step ((intro hC; first
      | (go_at_call 57; first | (with_reducible exact Buf.calm hC (M0.out _)) | (with_reducible exact Buf.calm hC (M1.out _)) | (with_reducible exact Buf.calm hC (M2.out _)) | (with_reducible exact Buf.calm hC (M3.out _)))
      | rfl
      | (simp only [(E0.out _ hC).1, (E0.out _ hC).2.1, (E0.out _ hC).2.2.1, (E0.out _ hC).2.2.2, (E1.out _ hC).1, (E1.out _ hC).2.1, (E1.out _ hC).2.2.1, (E1.out _ hC).2.2.2, Result.andThen_ok]; exact ⟨trivial, rfl⟩))))
    refine wpQuiet_nil ?_
    intro w4 hb4
    go_wp2
    go_ret
    exact ⟨rfl, Buf.then_ W1.out hb4⟩
  · rcases r1 with _ | _
    · go_enter Tryd.func39, Tryd.ntmps39
      go_upto_region 1 with fail
      rw [← hwb.out]
      clear hwb
      refine Buf.region_calm wb (by kernel_rfl) (by kernel_rfl) (Below.refl _ _) ?_
      repeat (go_big_quiet_step ((intro hC; first
        | (go_at_call 57; first | (with_reducible exact Buf.calm hC (M0.out _)) | (with_reducible exact Buf.calm hC (M1.out _)) | (with_reducible exact Buf.calm hC (M2.out _)) | (with_reducible exact Buf.calm hC (M3.out _)))
        | rfl
        | (simp only [(E0.out _ hC).1, (E0.out _ hC).2.1, (E0.out _ hC).2.2.1, (E0.out _ hC).2.2.2, (E1.out _ hC).1, (E1.out _ hC).2.1, (E1.out _ hC).2.2.1, (E1.out _ hC).2.2.2, Result.andThen_ok]; exact ⟨trivial, rfl⟩))))
      refine wpQuiet_nil ?_
      intro w4 hb4
      go_wp2
      go_ret
      exact ⟨rfl, Buf.then_ W1.out hb4⟩
    · rcases r2 with _ | _
      · go_enter Tryd.func39, Tryd.ntmps39
        go_upto_region 1 with fail
        rw [← hwb.out]
        clear hwb
        refine Buf.region_calm wb (by kernel_rfl) (by kernel_rfl) (Below.refl _ _) ?_
        repeat (go_big_quiet_step ((intro hC; first
          | (go_at_call 57; first | (with_reducible exact Buf.calm hC (M0.out _)) | (with_reducible exact Buf.calm hC (M1.out _)) | (with_reducible exact Buf.calm hC (M2.out _)) | (with_reducible exact Buf.calm hC (M3.out _)))
          | rfl
          | (simp only [(E0.out _ hC).1, (E0.out _ hC).2.1, (E0.out _ hC).2.2.1, (E0.out _ hC).2.2.2, (E1.out _ hC).1, (E1.out _ hC).2.1, (E1.out _ hC).2.2.1, (E1.out _ hC).2.2.2, Result.andThen_ok]; exact ⟨trivial, rfl⟩))))
        refine wpQuiet_nil ?_
        intro w4 hb4
        go_wp2
        go_ret
        exact ⟨rfl, Buf.then_ W1.out hb4⟩
      · rcases r3 with _ | _
        · go_enter Tryd.func39, Tryd.ntmps39
          go_upto_region 1 with fail
          rw [← hwb.out]
          clear hwb
          refine Buf.region_calm wb (by kernel_rfl) (by kernel_rfl) (Below.refl _ _) ?_
          repeat (go_big_quiet_step ((intro hC; first
            | (go_at_call 57; first | (with_reducible exact Buf.calm hC (M0.out _)) | (with_reducible exact Buf.calm hC (M1.out _)) | (with_reducible exact Buf.calm hC (M2.out _)) | (with_reducible exact Buf.calm hC (M3.out _)))
            | rfl
            | (simp only [(E0.out _ hC).1, (E0.out _ hC).2.1, (E0.out _ hC).2.2.1, (E0.out _ hC).2.2.2, (E1.out _ hC).1, (E1.out _ hC).2.1, (E1.out _ hC).2.2.1, (E1.out _ hC).2.2.2, Result.andThen_ok]; exact ⟨trivial, rfl⟩))))
          refine wpQuiet_nil ?_
          intro w4 hb4
          go_wp2
          go_ret
          exact ⟨rfl, Buf.then_ W1.out hb4⟩
        · go_enter Tryd.func39, Tryd.ntmps39
          go_upto_region 1 with fail
          rw [← hwb.out]
          clear hwb
          refine Buf.region_calm wb (by kernel_rfl) (by kernel_rfl) (Below.refl _ _) ?_
          repeat (go_big_quiet_step ((intro hC; first
            | (go_at_call 57; first | (with_reducible exact Buf.calm hC (M0.out _)) | (with_reducible exact Buf.calm hC (M1.out _)) | (with_reducible exact Buf.calm hC (M2.out _)) | (with_reducible exact Buf.calm hC (M3.out _)))
            | rfl
            | (simp only [(E0.out _ hC).1, (E0.out _ hC).2.1, (E0.out _ hC).2.2.1, (E0.out _ hC).2.2.2, (E1.out _ hC).1, (E1.out _ hC).2.1, (E1.out _ hC).2.2.1, (E1.out _ hC).2.2.2, Result.andThen_ok]; exact ⟨trivial, rfl⟩))))
          refine wpQuiet_nil ?_
          intro w4 hb4
          go_wp2
          go_ret
          exact ⟨rfl, Buf.then_ W1.out hb4⟩
set_option maxHeartbeats 4000000 in
theorem match_src {a b c d : List UInt8} (ha : Part a) (hb' : Part b) (hc : Part c) (hd : Part d) {s0 s1 s2 s3 : List UInt8} (h : Src4 s0 s1 s2 s3) (w : World) (hm : Mx w) :
    Calls Tryd.prog 22 #[.string ⟨⟨j4 a b c d⟩⟩, .agg #[.string ⟨⟨s0⟩⟩, .string ⟨⟨s1⟩⟩, .string ⟨⟨s2⟩⟩, .string ⟨⟨s3⟩⟩]] w fun e w' =>
      e = .returned (.tuple #[.bool (m4 a b c d s0 s1 s2 s3), .int .i64 0]) ∧ Below w.heap.size w w' := by
  have V := Lib.hid fun w' => valid_yes h w'
  have M := Lib.hid fun w' g K => matchParts_any ha hb' hc hd h w' g K
  obtain ⟨wb, hwb⟩ : ∃ wb, wb = w.alloc (.cells #[.string ⟨⟨s0⟩⟩, .string ⟨⟨s1⟩⟩, .string ⟨⟨s2⟩⟩, .string ⟨⟨s3⟩⟩] 28) := ⟨_, rfl⟩
  have W1 := Lib.hid (show Below w.heap.size w wb by rw [hwb]; exact new_block _)
  have B1 := Lib.hid (show wb.heap[w.heap.size]? = some (.cells #[.string ⟨⟨s0⟩⟩, .string ⟨⟨s1⟩⟩, .string ⟨⟨s2⟩⟩, .string ⟨⟨s3⟩⟩] 28 (0, 0)) by rw [hwb]; exact heap_alloc_new w _)
  have Q := Lib.hid (parts_any ha hb' hc hd wb (hm.next W1.out))
  generalize m4 a b c d s0 s1 s2 s3 = r at M ⊢
  obtain ⟨g, hg⟩ : ∃ g, g = wb.heap.size := ⟨_, rfl⟩
  rw [← hg] at Q
  replace hwb := Lib.hid hwb
  replace hg := Lib.hid hg
  clear h ha hb' hc hd hm
  go_enter Tryd.func22, Tryd.ntmps22
  go_upto_region 1 with fail
  rw [← hwb.out]
  go_upto_region 4 with (go_at_call 38; refine (Q.out).mono ?_; rintro e w1 ⟨rfl, K1, b1⟩)
  rw [hg.out] at b1
  have B2 := Lib.hid (hb b1 B1.out)
  obtain ⟨m0, m1, m2, m3⟩ := Rec.c4 B2.out
  replace K1 := Lib.hid K1
  replace b1 := Lib.hid b1
  go_upto_region 6 with (go_at_call 36; refine (V.out _).mono ?_; rintro e w2 ⟨rfl, b2⟩)
  have B3 := Lib.hid (hb b2 B2.out)
  have K2 := Lib.hid (K1.out.next b2)
  clear m0 m1 m2 m3
  obtain ⟨m0, m1, m2, m3⟩ := Rec.c4 B3.out
  go_wp2_with (go_at_call 39; refine (M.out _ _ K2.out).mono ?_; rintro e w3 ⟨rfl, b3⟩)
  refine bodyPost_ret (results_tmp2 rfl _ _ _) rfl ?_
  exact ⟨rfl, Buf.then_ W1.out (Buf.then_ b1.out (Buf.then_ b2 b3))⟩
end Sc
end Go.Proofs.YtfebacopbacopaaDoor
