/- RuleWindow: the walk. -/
import Derived.Test.YticjmblajloefaaRuleK
set_option linter.unusedVariables false
set_option linter.unusedSimpArgs false
namespace Go.Proofs.Yticjmblajloefaa
open Go.RowKit
open Go.Proofs.Yticjmblajloefaa.Ru
namespace Laws
set_option maxRecDepth 100000 in
set_option maxHeartbeats 8000000 in
theorem ruleWindow_walk (a0 : Option Addr) (len0 cap0 : Nat) (z0 : List Int) (a1 : Int) (w : World) (w0 : Buf.IsRow .i64 w a0 len0 cap0 z0) (h1 : (Lit.int .i64 a1).wf = true) :
    Calls Try.prog 5 #[.slice a0 len0 cap0, .int .i64 a1] w fun e w' => e = .returned (.bool true) ∧ Below w.heap.size w w' := by
  go_enter Try.func5, Try.ntmps5
  go_wp2_with fail
  refine (Src.new_any a0 len0 cap0 z0 w w0).mono ?_
  rintro e w1 ⟨rfl, nn, D1⟩
  have g1 := D1.lt
  go_wp2_with fail
  refine (policy_any D1).mono ?_
  rintro e v0 ⟨⟨gb, n, c, M, P, F, E, Ds, Ev, rfl, R, n3, d0, d9, e0, e9, hgb⟩, l0⟩
  have gbn : gb ≠ w.heap.size := by omega
  replace R := Lib.hid R
  replace l0 := Lib.hid l0
  clear D1
  go_wp2_with fail
  refine (event_any l0.out.di 1).mono ?_
  rintro e v1 ⟨⟨s0, s1, s2, s3, n1, n2, n3, n4, n5, pa, pn, pc, X, Y, Z, T, Mi, Lo, A1, A2, A3, A4, A5, A6, L, H, C, rfl, pv, t0, t9, hLH⟩, l⟩
  replace R := Lib.hid (R.out.of_block l.far.size (l.far.block gb R.out.lt (by simpa using gbn)))
  have l1 := Lib.hid (l0.out.trans l)
  clear l
  go_upto_region 3 with (first | ((with_reducible refine Mid.str 27 (.tmp 6) (.tmp 13) v1.heap.size 27 #[.slice none 0 0, .int .i64 0, .int .i64 0] #[.slice (some ⟨gb, 0, none⟩) n c, .int .i64 Ds, .int .i64 Ev] (Geo.blk_alloc (Geo.blk_new v1 _) _) ?_ ?_ ?_ ?_ ?_ ?_ ?_ ?_); (· rfl); (· rfl); (· first | rfl | simp [Act.eval]); (· first | rfl | simp [Act.eval]); (· kernel_rfl); (· rfl); (· simp [Value.oneCell'])) | ((with_reducible refine Mid.str 45 (.tmp 7) (.tmp 15) (v1.heap.size + 1) 45 #[.string ⟨#[]⟩, .string ⟨#[]⟩, .string ⟨#[]⟩, .string ⟨#[]⟩, .int .i64 0, .int .i64 0, .int .i64 0, .int .i64 0, .int .i64 0, .slice none 0 0, .int .i64 0, .int .i64 0, .int .i64 0, .int .i64 0, .int .i64 0, .int .i64 0, .int .i64 0, .int .i64 0, .int .i64 0, .int .i64 0, .int .i64 0, .int .i64 0, .int .i64 0, .int .i64 0, .int .i64 0] #[.string s0, .string s1, .string s2, .string s3, .int .i64 n1, .int .i64 n2, .int .i64 n3, .int .i64 n4, .int .i64 n5, .slice pa pn pc, .int .i64 X, .int .i64 Y, .int .i64 Z, .int .i64 T, .int .i64 Mi, .int .i64 Lo, .int .i64 A1, .int .i64 A2, .int .i64 A3, .int .i64 A4, .int .i64 A5, .int .i64 A6, .int .i64 L, .int .i64 H, .int .i64 C] ((setRow_other _ _ _ _ (by omega)).trans (Geo.blk_new1 v1 _ _)) ?_ ?_ ?_ ?_ ?_ ?_ ?_ ?_); (· rfl); (· rfl); (· first | rfl | simp [Act.eval]); (· first | rfl | simp [Act.eval]); (· kernel_rfl); (· rfl); (· simp [Value.oneCell'])))
  have q0 := Lib.hid (show ((((v1.alloc (.cells #[.slice none 0 0, .int .i64 0, .int .i64 0] 27)).alloc (.cells #[.string ⟨#[]⟩, .string ⟨#[]⟩, .string ⟨#[]⟩, .string ⟨#[]⟩, .int .i64 0, .int .i64 0, .int .i64 0, .int .i64 0, .int .i64 0, .slice none 0 0, .int .i64 0, .int .i64 0, .int .i64 0, .int .i64 0, .int .i64 0, .int .i64 0, .int .i64 0, .int .i64 0, .int .i64 0, .int .i64 0, .int .i64 0, .int .i64 0, .int .i64 0, .int .i64 0, .int .i64 0] 45)).setRow v1.heap.size #[.slice (some ⟨gb, 0, none⟩) n c, .int .i64 Ds, .int .i64 Ev]).setRow (v1.heap.size + 1) #[.string s0, .string s1, .string s2, .string s3, .int .i64 n1, .int .i64 n2, .int .i64 n3, .int .i64 n4, .int .i64 n5, .slice pa pn pc, .int .i64 X, .int .i64 Y, .int .i64 Z, .int .i64 T, .int .i64 Mi, .int .i64 Lo, .int .i64 A1, .int .i64 A2, .int .i64 A3, .int .i64 A4, .int .i64 A5, .int .i64 A6, .int .i64 L, .int .i64 H, .int .i64 C]).heap[v1.heap.size]? = some (.cells #[.slice (some ⟨gb, 0, none⟩) n c, .int .i64 Ds, .int .i64 Ev] 27 (0, 0)) from ((setRow_other _ _ _ _ (by omega)).trans (setRow_heap _ _ _ _ _ _ (Geo.blk_alloc (Geo.blk_new v1 _) _))))
  have q1 := Lib.hid (show ((((v1.alloc (.cells #[.slice none 0 0, .int .i64 0, .int .i64 0] 27)).alloc (.cells #[.string ⟨#[]⟩, .string ⟨#[]⟩, .string ⟨#[]⟩, .string ⟨#[]⟩, .int .i64 0, .int .i64 0, .int .i64 0, .int .i64 0, .int .i64 0, .slice none 0 0, .int .i64 0, .int .i64 0, .int .i64 0, .int .i64 0, .int .i64 0, .int .i64 0, .int .i64 0, .int .i64 0, .int .i64 0, .int .i64 0, .int .i64 0, .int .i64 0, .int .i64 0, .int .i64 0, .int .i64 0] 45)).setRow v1.heap.size #[.slice (some ⟨gb, 0, none⟩) n c, .int .i64 Ds, .int .i64 Ev]).setRow (v1.heap.size + 1) #[.string s0, .string s1, .string s2, .string s3, .int .i64 n1, .int .i64 n2, .int .i64 n3, .int .i64 n4, .int .i64 n5, .slice pa pn pc, .int .i64 X, .int .i64 Y, .int .i64 Z, .int .i64 T, .int .i64 Mi, .int .i64 Lo, .int .i64 A1, .int .i64 A2, .int .i64 A3, .int .i64 A4, .int .i64 A5, .int .i64 A6, .int .i64 L, .int .i64 H, .int .i64 C]).heap[(v1.heap.size + 1)]? = some (.cells #[.string s0, .string s1, .string s2, .string s3, .int .i64 n1, .int .i64 n2, .int .i64 n3, .int .i64 n4, .int .i64 n5, .slice pa pn pc, .int .i64 X, .int .i64 Y, .int .i64 Z, .int .i64 T, .int .i64 Mi, .int .i64 Lo, .int .i64 A1, .int .i64 A2, .int .i64 A3, .int .i64 A4, .int .i64 A5, .int .i64 A6, .int .i64 L, .int .i64 H, .int .i64 C] 45 (0, 0)) from (setRow_heap _ _ _ _ _ _ ((setRow_other _ _ _ _ (by omega)).trans (Geo.blk_new1 v1 _ _))))
  have BB := Lib.hid (show Below v1.heap.size v1 ((((v1.alloc (.cells #[.slice none 0 0, .int .i64 0, .int .i64 0] 27)).alloc (.cells #[.string ⟨#[]⟩, .string ⟨#[]⟩, .string ⟨#[]⟩, .string ⟨#[]⟩, .int .i64 0, .int .i64 0, .int .i64 0, .int .i64 0, .int .i64 0, .slice none 0 0, .int .i64 0, .int .i64 0, .int .i64 0, .int .i64 0, .int .i64 0, .int .i64 0, .int .i64 0, .int .i64 0, .int .i64 0, .int .i64 0, .int .i64 0, .int .i64 0, .int .i64 0, .int .i64 0, .int .i64 0] 45)).setRow v1.heap.size #[.slice (some ⟨gb, 0, none⟩) n c, .int .i64 Ds, .int .i64 Ev]).setRow (v1.heap.size + 1) #[.string s0, .string s1, .string s2, .string s3, .int .i64 n1, .int .i64 n2, .int .i64 n3, .int .i64 n4, .int .i64 n5, .slice pa pn pc, .int .i64 X, .int .i64 Y, .int .i64 Z, .int .i64 T, .int .i64 Mi, .int .i64 Lo, .int .i64 A1, .int .i64 A2, .int .i64 A3, .int .i64 A4, .int .i64 A5, .int .i64 A6, .int .i64 L, .int .i64 H, .int .i64 C]) from (Mid.below_row (Mid.below_row (((Below.refl v1.heap.size v1).alloc (Nat.le_refl _) _).alloc (by simp) _) _ _ (by omega)) _ _ (by omega)))
  have zB := Lib.hid (show ((((v1.alloc (.cells #[.slice none 0 0, .int .i64 0, .int .i64 0] 27)).alloc (.cells #[.string ⟨#[]⟩, .string ⟨#[]⟩, .string ⟨#[]⟩, .string ⟨#[]⟩, .int .i64 0, .int .i64 0, .int .i64 0, .int .i64 0, .int .i64 0, .slice none 0 0, .int .i64 0, .int .i64 0, .int .i64 0, .int .i64 0, .int .i64 0, .int .i64 0, .int .i64 0, .int .i64 0, .int .i64 0, .int .i64 0, .int .i64 0, .int .i64 0, .int .i64 0, .int .i64 0, .int .i64 0] 45)).setRow v1.heap.size #[.slice (some ⟨gb, 0, none⟩) n c, .int .i64 Ds, .int .i64 Ev]).setRow (v1.heap.size + 1) #[.string s0, .string s1, .string s2, .string s3, .int .i64 n1, .int .i64 n2, .int .i64 n3, .int .i64 n4, .int .i64 n5, .slice pa pn pc, .int .i64 X, .int .i64 Y, .int .i64 Z, .int .i64 T, .int .i64 Mi, .int .i64 Lo, .int .i64 A1, .int .i64 A2, .int .i64 A3, .int .i64 A4, .int .i64 A5, .int .i64 A6, .int .i64 L, .int .i64 H, .int .i64 C]).heap.size = v1.heap.size + 1 + 1 by simp [World.setRow])
  generalize ((((v1.alloc (.cells #[.slice none 0 0, .int .i64 0, .int .i64 0] 27)).alloc (.cells #[.string ⟨#[]⟩, .string ⟨#[]⟩, .string ⟨#[]⟩, .string ⟨#[]⟩, .int .i64 0, .int .i64 0, .int .i64 0, .int .i64 0, .int .i64 0, .slice none 0 0, .int .i64 0, .int .i64 0, .int .i64 0, .int .i64 0, .int .i64 0, .int .i64 0, .int .i64 0, .int .i64 0, .int .i64 0, .int .i64 0, .int .i64 0, .int .i64 0, .int .i64 0, .int .i64 0, .int .i64 0] 45)).setRow v1.heap.size #[.slice (some ⟨gb, 0, none⟩) n c, .int .i64 Ds, .int .i64 Ev]).setRow (v1.heap.size + 1) #[.string s0, .string s1, .string s2, .string s3, .int .i64 n1, .int .i64 n2, .int .i64 n3, .int .i64 n4, .int .i64 n5, .slice pa pn pc, .int .i64 X, .int .i64 Y, .int .i64 Z, .int .i64 T, .int .i64 Mi, .int .i64 Lo, .int .i64 A1, .int .i64 A2, .int .i64 A3, .int .i64 A4, .int .i64 A5, .int .i64 A6, .int .i64 L, .int .i64 H, .int .i64 C]) = wB at *
  replace R := Lib.hid (R.out.below BB.out)
  have Dk := Lib.hid (l1.out.di.below BB.out)
  have BW := Lib.hid (Dk.out.bel)
  have zk := l1.out.di.lt
  have zB' := zB.out
  have Q0 := Lib.hid fun w' (hC : Below wB.heap.size wB w') => (hC.block _ (by omega)).trans q0.out
  have Q1 := Lib.hid fun w' (hC : Below wB.heap.size wB w') => (hC.block _ (by omega)).trans q1.out
  clear q0 q1 BB
  obtain ⟨la, hla⟩ : ∃ la, lev (mq M P F pn Mi L C) n = la := ⟨_, rfl⟩
  have hle := lev_le (mq M P F pn Mi L C) n
  rw [hla] at hle
  have CL := Lib.hid fun w' (hC : Below wB.heap.size wB w') => by have h := level_any gb n c M P F E Ds Ev s0 s1 s2 s3 n1 n2 n3 n4 n5 pa pn pc X Y Z T Mi Lo A1 A2 A3 A4 A5 A6 L H C w' (R.out.below hC) d0 (by omega) e0 (by omega); rw [hla] at h; exact h
  obtain ⟨k, hk, k0, k9⟩ : ∃ k, a1 % 200001 = k ∧ 0 ≤ k ∧ k < 200001 := ⟨_, rfl, by omega, by omega⟩
  have CM := Lib.hid fun w' => by have h := Keep.mod_any a1 200001 w' (by omega) (by omega); rw [hk] at h; exact h
  obtain ⟨r, hr⟩ : ∃ r, Tl (mq M P F pn Mi L C) n E T (T + (k - 1000)) = r := ⟨_, rfl⟩
  have CT := Lib.hid fun w' (hC : Below wB.heap.size wB w') => by have h := timely_any gb n c M P F E Ds Ev s0 s1 s2 s3 n1 n2 n3 n4 n5 pa pn pc X Y Z T Mi Lo A1 A2 A3 A4 A5 A6 L H C (T + (k - 1000)) w' (R.out.below hC) d0 (by omega) e0 (by omega) (by omega) (by omega) (by omega) (by omega); rw [hr] at h; exact h
  have BC := Lib.hid (Below.refl wB.heap.size wB)
  unfold Tl at hr
  rw [hla] at hr
  replace hk := Lib.hid hk
  replace hla := Lib.hid hla
  replace hr := Lib.hid hr
  clear h1
  go_upto_region 5 with (first | ((with_reducible refine Mid.ldrg 27 (.tmp 6) v1.heap.size 27 #[.slice (some ⟨gb, 0, none⟩) n c, .int .i64 Ds, .int .i64 Ev] (Q0.out _ BC.out) ?_ ?_ ?_ ?_ ?_ ?_); (· rfl); (· rfl); (· first | rfl | simp [Act.eval]); (· exact ⟨_, rfl, rfl⟩); (· kernel_rfl)) | ((with_reducible refine Mid.ldrg 45 (.tmp 7) (v1.heap.size + 1) 45 #[.string s0, .string s1, .string s2, .string s3, .int .i64 n1, .int .i64 n2, .int .i64 n3, .int .i64 n4, .int .i64 n5, .slice pa pn pc, .int .i64 X, .int .i64 Y, .int .i64 Z, .int .i64 T, .int .i64 Mi, .int .i64 Lo, .int .i64 A1, .int .i64 A2, .int .i64 A3, .int .i64 A4, .int .i64 A5, .int .i64 A6, .int .i64 L, .int .i64 H, .int .i64 C] (Q1.out _ BC.out) ?_ ?_ ?_ ?_ ?_ ?_); (· rfl); (· rfl); (· first | rfl | simp [Act.eval]); (· exact ⟨_, rfl, rfl⟩); (· kernel_rfl)) | (go_at_call 11; (with_reducible refine (CL.out _ BC.out).mono ?_); rintro e w3 ⟨rfl, hb⟩; replace BC := Lib.hid (BC.out.trans (hb.mono BC.out.size)); clear hb) | (go_at_call 14; (with_reducible refine (CM.out _).mono ?_); rintro e w2 ⟨rfl, rfl⟩))
  have c0 : w2.cell? ⟨v1.heap.size, 0, none⟩ = some (.slice (some ⟨gb, 0, none⟩) n c) := cell_of_row _ _ 0 _ _ _ (Q0.out _ BC.out)
  have hn0 : (0 : Int) ≤ la := by omega
  have hln : (la : Int) ≤ n := by omega
  have hn8 := R.out.n8
  have hnc := R.out.le
  have BR := R.out.below BC.out
  clear CL CM
  have fin : ∀ w5 : World, Below w2.heap.size w2 w5 → Below w.heap.size w w5 := fun w5 h => BW.out.trans ((BC.out.trans (h.mono BC.out.size)).mono (by have := BW.out.size; omega))
  replace fin := Lib.hid fin
  have cT : w2.cell? ⟨(v1.heap.size + 1), 13, none⟩ = some (.int .i64 T) := cell_of_row _ _ 13 _ _ _ (Q1.out _ BC.out)
  have hTb : 0 ≤ T ∧ T ≤ 2000 := ⟨t0, t9⟩
  rcases la with _ | u
  · have hr0 : r = false := by rw [← hr.out]; exact decide_eq_false (by simp)
    subst hr0
    have hz : ((0 : Nat) : Int) = 0 := rfl
    rw [hz]
    go_wp2_with (first | ((with_reducible refine Mid.ldrg 27 (.tmp 6) v1.heap.size 27 #[.slice (some ⟨gb, 0, none⟩) n c, .int .i64 Ds, .int .i64 Ev] (Q0.out _ BC.out) ?_ ?_ ?_ ?_ ?_ ?_); (· rfl); (· rfl); (· first | rfl | simp [Act.eval]); (· exact ⟨_, rfl, rfl⟩); (· kernel_rfl)) | ((with_reducible refine Mid.ldrg 45 (.tmp 7) (v1.heap.size + 1) 45 #[.string s0, .string s1, .string s2, .string s3, .int .i64 n1, .int .i64 n2, .int .i64 n3, .int .i64 n4, .int .i64 n5, .slice pa pn pc, .int .i64 X, .int .i64 Y, .int .i64 Z, .int .i64 T, .int .i64 Mi, .int .i64 Lo, .int .i64 A1, .int .i64 A2, .int .i64 A3, .int .i64 A4, .int .i64 A5, .int .i64 A6, .int .i64 L, .int .i64 H, .int .i64 C] (Q1.out _ BC.out) ?_ ?_ ?_ ?_ ?_ ?_); (· rfl); (· rfl); (· first | rfl | simp [Act.eval]); (· exact ⟨_, rfl, rfl⟩); (· kernel_rfl)) | (go_at_call 15; (with_reducible refine (CT.out _ BC.out).mono ?_); rintro e w4 ⟨rfl, hb4⟩) | (go_at_call 12; refine (awake_any _).mono ?_; rintro e w5 ⟨rfl, hb5⟩))
    go_ret
    exact ⟨rfl, fin.out _ (hb4.trans (hb5.mono hb4.size))⟩
  · have hu : u < n := by omega
    have v3 := BR.at3 u hu
    obtain ⟨_, _, _, _, _, _, x0, x9⟩ := BR.val u hu
    have hu' : (u : Int) < n := by omega
    have hcu : ((u + 1 : Nat) : Int) = (u : Int) + 1 := by omega
    rw [hcu]
    rw [hcu] at hln hn0
    have hmx : max ((u : Int) + 1) 1 = (u : Int) + 1 := by omega
    have hsb : (u : Int) + 1 - 1 = u := by omega
    have hun : u + 1 - 1 = u := by omega
    have hr1 := hr.out
    rw [hun] at hr1
    generalize E u = eu at *
    by_cases hd0 : k - 1000 < 0
    · have hr0 : r = false := by rw [← hr1]; exact decide_eq_false (by omega)
      clear hr1
      subst hr0
      go_wp2_with (first | ((with_reducible refine Mid.ldrg 27 (.tmp 6) v1.heap.size 27 #[.slice (some ⟨gb, 0, none⟩) n c, .int .i64 Ds, .int .i64 Ev] (Q0.out _ BC.out) ?_ ?_ ?_ ?_ ?_ ?_); (· rfl); (· rfl); (· first | rfl | simp [Act.eval]); (· exact ⟨_, rfl, rfl⟩); (· kernel_rfl)) | ((with_reducible refine Mid.ldrg 45 (.tmp 7) (v1.heap.size + 1) 45 #[.string s0, .string s1, .string s2, .string s3, .int .i64 n1, .int .i64 n2, .int .i64 n3, .int .i64 n4, .int .i64 n5, .slice pa pn pc, .int .i64 X, .int .i64 Y, .int .i64 Z, .int .i64 T, .int .i64 Mi, .int .i64 Lo, .int .i64 A1, .int .i64 A2, .int .i64 A3, .int .i64 A4, .int .i64 A5, .int .i64 A6, .int .i64 L, .int .i64 H, .int .i64 C] (Q1.out _ BC.out) ?_ ?_ ?_ ?_ ?_ ?_); (· rfl); (· rfl); (· first | rfl | simp [Act.eval]); (· exact ⟨_, rfl, rfl⟩); (· kernel_rfl)) | (go_at_call 15; (with_reducible refine (CT.out _ BC.out).mono ?_); rintro e w4 ⟨rfl, hb4⟩) | (go_at_call 12; refine (awake_any _).mono ?_; rintro e w5 ⟨rfl, hb5⟩))
      go_ret
      exact ⟨rfl, fin.out _ (hb4.trans (hb5.mono hb4.size))⟩
    · have hd0' : 0 ≤ k - 1000 := by omega
      by_cases hd1 : k - 1000 ≤ eu
      · have hr0 : r = true := by rw [← hr1]; exact decide_eq_true ⟨by omega, by omega, by omega⟩
        clear hr1
        subst hr0
        go_wp2_with (first | ((with_reducible refine Mid.ldrg 27 (.tmp 6) v1.heap.size 27 #[.slice (some ⟨gb, 0, none⟩) n c, .int .i64 Ds, .int .i64 Ev] (Q0.out _ BC.out) ?_ ?_ ?_ ?_ ?_ ?_); (· rfl); (· rfl); (· first | rfl | simp [Act.eval]); (· exact ⟨_, rfl, rfl⟩); (· kernel_rfl)) | ((with_reducible refine Mid.ldrg 45 (.tmp 7) (v1.heap.size + 1) 45 #[.string s0, .string s1, .string s2, .string s3, .int .i64 n1, .int .i64 n2, .int .i64 n3, .int .i64 n4, .int .i64 n5, .slice pa pn pc, .int .i64 X, .int .i64 Y, .int .i64 Z, .int .i64 T, .int .i64 Mi, .int .i64 Lo, .int .i64 A1, .int .i64 A2, .int .i64 A3, .int .i64 A4, .int .i64 A5, .int .i64 A6, .int .i64 L, .int .i64 H, .int .i64 C] (Q1.out _ BC.out) ?_ ?_ ?_ ?_ ?_ ?_); (· rfl); (· rfl); (· first | rfl | simp [Act.eval]); (· exact ⟨_, rfl, rfl⟩); (· kernel_rfl)) | (go_at_call 15; (with_reducible refine (CT.out _ BC.out).mono ?_); rintro e w4 ⟨rfl, hb4⟩) | (go_at_call 12; refine (awake_any _).mono ?_; rintro e w5 ⟨rfl, hb5⟩))
        go_ret
        exact ⟨rfl, fin.out _ (hb4.trans (hb5.mono hb4.size))⟩
      · have hr0 : r = false := by rw [← hr1]; exact decide_eq_false (by omega)
        clear hr1
        subst hr0
        have hd2 : eu < k - 1000 := by omega
        go_wp2_with (first | ((with_reducible refine Mid.ldrg 27 (.tmp 6) v1.heap.size 27 #[.slice (some ⟨gb, 0, none⟩) n c, .int .i64 Ds, .int .i64 Ev] (Q0.out _ BC.out) ?_ ?_ ?_ ?_ ?_ ?_); (· rfl); (· rfl); (· first | rfl | simp [Act.eval]); (· exact ⟨_, rfl, rfl⟩); (· kernel_rfl)) | ((with_reducible refine Mid.ldrg 45 (.tmp 7) (v1.heap.size + 1) 45 #[.string s0, .string s1, .string s2, .string s3, .int .i64 n1, .int .i64 n2, .int .i64 n3, .int .i64 n4, .int .i64 n5, .slice pa pn pc, .int .i64 X, .int .i64 Y, .int .i64 Z, .int .i64 T, .int .i64 Mi, .int .i64 Lo, .int .i64 A1, .int .i64 A2, .int .i64 A3, .int .i64 A4, .int .i64 A5, .int .i64 A6, .int .i64 L, .int .i64 H, .int .i64 C] (Q1.out _ BC.out) ?_ ?_ ?_ ?_ ?_ ?_); (· rfl); (· rfl); (· first | rfl | simp [Act.eval]); (· exact ⟨_, rfl, rfl⟩); (· kernel_rfl)) | (go_at_call 15; (with_reducible refine (CT.out _ BC.out).mono ?_); rintro e w4 ⟨rfl, hb4⟩) | (go_at_call 12; refine (awake_any _).mono ?_; rintro e w5 ⟨rfl, hb5⟩))
        go_ret
        exact ⟨rfl, fin.out _ (hb4.trans (hb5.mono hb4.size))⟩
end Laws
end Go.Proofs.Yticjmblajloefaa
