/- The walk of NatInts. -/
import Derived.Test.YtimjhbccdlfjkaaDoorNtxZ
import Derived.Deep.DeepCutAuto
set_option linter.unusedVariables false
set_option linter.unusedSimpArgs false
namespace Go.Proofs.YtimjhbccdlfjkaaDoor
open Go.RowKit Dice Go.Lib
namespace Laws
open Nt
set_option maxHeartbeats 16000000 in
set_option maxRecDepth 100000 in
theorem natInts_walk (a b c : Int) (wa : (Lit.int .u32 a).wf = true) (wb : (Lit.int .u32 b).wf = true) (wc : (Lit.int .u16 c).wf = true) (w : World) (hT : Tab w) (T : ∀ w w', Tab w → Below w.heap.size w w' → Tab w') :
    Calls Tryd.prog 3 #[.int .u32 a, .int .u32 b, .int .u16 c] w fun e w' => e = .returned (.bool true) ∧ Below w.heap.size w w' := by
  replace hT := Lib.hid hT
  have Sn := Lib.hid fun w1 (b : Below w.heap.size w w1) => Nt.sane_any w1 (T _ _ hT.out b) T
  obtain ⟨a0, a1⟩ : 0 ≤ a ∧ a ≤ 4294967295 := Ma.wf_u32 wa
  obtain ⟨b0, b1⟩ : 0 ≤ b ∧ b ≤ 4294967295 := Ma.wf_u32 wb
  obtain ⟨c0, c1⟩ : 0 ≤ c ∧ c ≤ 65535 := Ma.wf_u16 wc
  clear wa wb wc T hT
  go_enter Tryd.func3, Tryd.ntmps3
  go_wp2_with fail
  with_reducible refine (from_num a _ (by omega) (by omega)).mono ?_
  rintro e w1 ⟨⟨vx, rfl, NX⟩, hb⟩
  have BW := Lib.hid hb
  replace NX := Lib.hid NX
  clear hb
  go_wp2_with fail
  with_reducible refine (from_num b _ (by omega) (by omega)).mono ?_
  rintro e w2 ⟨⟨vy, rfl, NY⟩, hb⟩
  replace BW := Lib.hid (Buf.then_ BW.out hb)
  replace NX := Lib.hid (NX.out.below hb)
  replace NY := Lib.hid NY
  clear hb
  go_wp2_with fail
  with_reducible refine (add_num NX.out NY.out (by omega) (by omega)).mono ?_
  rintro e w3 ⟨⟨vs, rfl, NS⟩, hb⟩
  replace BW := Lib.hid (Buf.then_ BW.out hb)
  replace NX := Lib.hid (NX.out.below hb)
  replace NY := Lib.hid (NY.out.below hb)
  replace NS := Lib.hid NS
  clear hb
  go_wp2_with fail
  with_reducible refine (mul_num NX.out NY.out (by omega)).mono ?_
  rintro e w4 ⟨⟨vm, rfl, NM⟩, hb⟩
  replace BW := Lib.hid (Buf.then_ BW.out hb)
  replace NX := Lib.hid (NX.out.below hb)
  replace NY := Lib.hid (NY.out.below hb)
  replace NS := Lib.hid (NS.out.below hb)
  replace NM := Lib.hid NM
  clear hb
  go_wp2_with fail
  with_reducible refine (int_num NS.out (by omega)).mono ?_
  rintro e w5 ⟨he, hb⟩
  obtain rfl : e = .returned (.tuple #[.int .i64 (a + b), .int .i64 0]) := by
    rcases he with ⟨_, h⟩ | ⟨h, _⟩
    · exact h
    · omega
  replace BW := Lib.hid (Buf.then_ BW.out hb)
  replace NX := Lib.hid (NX.out.below hb)
  replace NY := Lib.hid (NY.out.below hb)
  replace NM := Lib.hid (NM.out.below hb)
  clear hb he NS
  have k1 : 1 ≤ 1 + c := by omega
  have k9 : 1 + c ≤ 65536 := by omega
  go_wp2_with fail
  with_reducible refine (div_num (1 + c) NX.out (by omega) k1 (by omega)).mono ?_
  rintro e w6 ⟨⟨vq, rfl, NQ⟩, hb⟩
  replace BW := Lib.hid (Buf.then_ BW.out hb)
  replace NX := Lib.hid (NX.out.below hb)
  replace NY := Lib.hid (NY.out.below hb)
  replace NM := Lib.hid (NM.out.below hb)
  replace NQ := Lib.hid NQ
  clear hb
  have tq : a.tdiv (1 + c) = a / (1 + c) := Int.tdiv_eq_ediv_of_nonneg a0
  have tm : a.tmod (1 + c) = a % (1 + c) := Int.tmod_eq_emod_of_nonneg a0
  have q0 : 0 ≤ a / (1 + c) := Int.ediv_nonneg a0 (by omega)
  have q9 : a / (1 + c) ≤ 4294967295 := Int.le_trans (Int.ediv_le_self _ a0) a1
  have m0 : 0 ≤ a % (1 + c) := Int.emod_nonneg _ (by omega)
  have m9 : a % (1 + c) < (1 + c) := Int.emod_lt_of_pos _ (by omega)
  go_wp2_with fail
  with_reducible refine (int_num NQ.out (by omega)).mono ?_
  rintro e w7 ⟨he, hb⟩
  obtain rfl : e = .returned (.tuple #[.int .i64 (a / (1 + c)), .int .i64 0]) := by
    rcases he with ⟨_, h⟩ | ⟨h, _⟩
    · exact h
    · omega
  replace BW := Lib.hid (Buf.then_ BW.out hb)
  replace NX := Lib.hid (NX.out.below hb)
  replace NY := Lib.hid (NY.out.below hb)
  replace NM := Lib.hid (NM.out.below hb)
  clear hb he NQ
  have p0 : 0 ≤ a * b := Int.mul_nonneg a0 b0
  have p9 : a * b ≤ 18446744065119617025 := Int.le_trans (Int.mul_le_mul a1 b1 b0 (by omega)) (by decide)
  have CP := Lib.hid fun w1 (hb : Below w7.heap.size w7 w1) => compare_num (NX.out.below hb) (NY.out.below hb) (by omega) (by omega)
  go_wp2_with fail
  with_reducible refine (int_num NM.out (by omega)).mono ?_
  rintro e w8 ⟨he, hb⟩
  replace CP := Lib.hid (CP.out _ hb)
  replace BW := Lib.hid (Buf.then_ BW.out hb)
  clear hb NM NX NY
  rcases he with ⟨hm, rfl⟩ | ⟨hm, rfl⟩
  all_goals
    rcases Int.lt_trichotomy a b with hab | hab | hab
    · go_wp2_with fail
      with_reducible refine CP.out.mono ?_
      rintro e w9 ⟨ht, hb⟩
      obtain rfl : e = .returned (.int .i64 (-1)) := by
        rcases ht with ⟨h, h'⟩ | ⟨h, h'⟩ | ⟨h, h'⟩ <;> first | exact h | omega
      clear ht
      replace BW := Lib.hid (Buf.then_ BW.out hb)
      clear hb
      go_wp2_with fail
      refine (Sn.out _ BW.out).mono ?_
      rintro e wz ⟨rfl, hb⟩
      go_wp2_with fail
      go_ret
      exact ⟨rfl, Buf.then_ BW.out hb⟩
    · subst hab
      go_wp2_with fail
      with_reducible refine CP.out.mono ?_
      rintro e w9 ⟨ht, hb⟩
      obtain rfl : e = .returned (.int .i64 (0)) := by
        rcases ht with ⟨h, h'⟩ | ⟨h, h'⟩ | ⟨h, h'⟩ <;> first | exact h | omega
      clear ht
      replace BW := Lib.hid (Buf.then_ BW.out hb)
      clear hb
      go_wp2_with fail
      refine (Sn.out _ BW.out).mono ?_
      rintro e wz ⟨rfl, hb⟩
      go_wp2_with fail
      go_ret
      exact ⟨rfl, Buf.then_ BW.out hb⟩
    · go_wp2_with fail
      with_reducible refine CP.out.mono ?_
      rintro e w9 ⟨ht, hb⟩
      obtain rfl : e = .returned (.int .i64 (1)) := by
        rcases ht with ⟨h, h'⟩ | ⟨h, h'⟩ | ⟨h, h'⟩ <;> first | exact h | omega
      clear ht
      replace BW := Lib.hid (Buf.then_ BW.out hb)
      clear hb
      go_wp2_with fail
      refine (Sn.out _ BW.out).mono ?_
      rintro e wz ⟨rfl, hb⟩
      go_wp2_with fail
      go_ret
      exact ⟨rfl, Buf.then_ BW.out hb⟩
end Laws
end Go.Proofs.YtimjhbccdlfjkaaDoor
