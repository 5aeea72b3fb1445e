/- The walk of LogarithmTrue. -/
import Derived.Test.YtaogfoodddkakaaLogP
import Derived.Test.YtaogfoodddkakaaNatD
namespace Go.Proofs.Ytaogfoodddkakaa
open Go.RowKit Log
namespace Laws
open Nat'
theorem one_vl (n : Int) (h0 : 1 ≤ n) (h1 : n ≤ 1073741823) : VL [n] :=
  ⟨fun j => by cases j <;> simp [List.getD] <;> omega, fun j => by cases j <;> simp [List.getD] <;> omega, h0⟩
theorem one_val (n : Int) : val [n] = n := by
  show (0 : Int) + n * B ^ 0 = n
  rw [Int.pow_zero, Int.mul_one, Int.zero_add]
theorem pow_small (n : Int) (i : Nat) (h0 : 1 ≤ n) (h1 : n ≤ 127) (hi : i ≤ 255) : 1 ≤ n ^ i ∧ n ^ i < B ^ 60 := by
  have a : ∀ i : Nat, 1 ≤ n ^ i ∧ n ^ i ≤ 127 ^ i := fun i => by
    induction i with
    | zero => simp
    | succ i ih =>
      rw [Int.pow_succ, Int.pow_succ]
      refine ⟨?_, Int.mul_le_mul ih.2 h1 (by omega) (by omega)⟩
      have := Int.mul_le_mul ih.1 h0 (by decide) (by omega)
      omega
  refine ⟨(a i).1, Int.lt_of_le_of_lt (a i).2 ?_⟩
  have m : (127 : Int) ^ i ≤ 127 ^ 255 := by exact_mod_cast Nat.pow_le_pow_right (show 0 < 127 by decide) hi
  exact Int.lt_of_le_of_lt m (by decide +kernel)
set_option maxHeartbeats 2000000 in
set_option maxRecDepth 100000 in
theorem logarithmTrue_walk (a0 : Int) (_w0 : (Lit.int .i64 a0).wf = true) (w : World) :
    Calls Try.prog 4 #[.int .i64 a0] w fun e w' => e = .returned (.bool true) ∧ Below w.heap.size w w' := by
  have m0 : 0 ≤ a0 % 127 := by omega
  have m1 : a0 % 127 < 127 := by omega
  have M : Hid (∀ w, Calls Try.prog 7 #[.int .i64 a0, .int .i64 127] w fun e w' => e = .returned (.int .i64 (a0 % 127)) ∧ w' = w) := Lib.hid fun w => Keep.mod_any a0 127 w (by omega) (by omega)
  generalize a0 % 127 = x at *
  obtain ⟨k, Y, hlg⟩ := lg_of (1 + x) (by omega) (by omega)
  obtain ⟨N, R, hN, hR, lo, hi⟩ := lg_pow _ k Y hlg
  have L := Lib.hid hlg.calls
  have y0 := hlg.y0
  have y1 := hlg.y1
  have k6 : k ≤ 6 := by
    have h := hlg.lo
    by_cases hk : k ≤ 6
    · exact hk
    · have := (Ma.pow_bd 7 k (by omega)).2; omega
  have lo' : Hid ((2 : Int) ^ R ≤ (1 + x) ^ 256) := Lib.hid (by rw [hN]; exact_mod_cast lo)
  have hi' : Hid ((1 + x) ^ 256 < (2 : Int) ^ (R + 2)) := Lib.hid (by rw [hN]; exact_mod_cast hi)
  have F1 := Lib.hid fun w => from_one 1 w (by decide) (by decide)
  have F2 := Lib.hid fun w => from_one (1 + x) w (by omega) (by omega)
  have hr0 : Hid (256 * (k : Int) + Y = 30 * ((R / 30 : Nat) : Int) + ((R % 30 : Nat) : Int)) := Lib.hid (by omega)
  have hr2 : Hid (256 * (k : Int) + Y + 2 = 30 * (((R + 2) / 30 : Nat) : Int) + (((R + 2) % 30 : Nat) : Int)) := Lib.hid (by omega)
  have hRb : R ≤ 1791 := by omega
  clear hN hR lo hi hlg
  go_enter Try.func4, Try.ntmps4
  go_wp2_with (first
    | (go_at_call 7; with_reducible refine (M.out _).mono ?_; rintro e w1 ⟨rfl, rfl⟩)
    | (go_at_call 10; with_reducible refine (L.out _).mono ?_; rintro e w1 ⟨rfl, rfl⟩))
  refine (F1.out _).mono ?_
  rintro e w2 ⟨g1, c1, rfl, s1, hb1⟩
  replace s1 := Lib.hid s1
  replace hb1 := Lib.hid hb1
  go_wp2_with fail
  refine (F2.out _).mono ?_
  rintro e w3 ⟨g2, c2, rfl, s2, hb2⟩
  replace s1 := Lib.hid (s1.out.below hb2)
  replace s2 := Lib.hid s2
  replace hb2 := Lib.hid (Buf.then_ hb1.out hb2)
  clear hb1
  go_wp2_with fail
  go_loopw [5, 9] (fun v i wr => ∃ (j : Nat) (X : List Int) (g c : Nat), j ≤ 256 ∧ i = .int .i64 j ∧ v = .slice (some ⟨g, 0, none⟩) X.length c ∧ Hid (Sl wr g c X) ∧ Hid (VL X) ∧ Hid (val X = (1 + x) ^ j) ∧ Hid (Sl wr g2 c2 [1 + x]) ∧ Hid (Below w1.heap.size w1 wr)) (fun _ i _ => (256 - intOf i).toNat)
  case atStart => exact ⟨0, [1], g1, c1, by omega, rfl, rfl, s1, Lib.hid (one_vl 1 (by decide) (by decide)), Lib.hid (by rw [one_val, Int.pow_zero]), s2, hb2⟩
  case round =>
    obtain ⟨j, X, g, c, hj, rfl, rfl, hsl, hvl, hval, hs2, hbel⟩ := hrel
    clear s1 s2 hb2
    by_cases hlt : j < 256
    · have hl : X.length ≤ 60 := len_of_val X hvl.out hsl.out.pos 60 (by rw [hval.out]; exact (pow_small _ j (by omega) (by omega) (by omega)).2)
      have MM := Lib.hid (Mul_one g c X.length g2 c2 X (1 + x) wr hsl.out hs2.out hvl.out rfl (by omega) (by omega) (by omega))
      obtain ⟨p1, p2, _, _⟩ := pr_spec X (1 + x) hvl.out hsl.out.pos (by omega) (by omega)
      have pv : Hid (val (pr X (1 + x)) = (1 + x) ^ (j + 1)) := Lib.hid (by rw [p2, hval.out, Int.pow_succ])
      replace p1 := Lib.hid p1
      clear p2
      go_wp2_with fail
      with_reducible refine MM.out.mono ?_
      rintro e w4 ⟨p, q, rfl, hsl4, hb4⟩
      have hs4 := Lib.hid (hs2.out.below hb4)
      have hbel4 := Lib.hid (Buf.then_ hbel.out hb4)
      replace hsl4 := Lib.hid hsl4
      clear hb4
      go_wp2_with fail
      go_roundw
      case rel => exact ⟨j + 1, _, p, q, by omega, by go_num, rfl, hsl4, p1, pv, hs4, hbel4⟩
      case measure => simp [intOf]; omega
    · obtain rfl : j = 256 := by omega
      have P1 := Lib.hid fun w => power_any (256 * (k : Int) + Y) (R / 30) (R % 30) w hr0.out (by omega) (by omega)
      have P2 := Lib.hid fun w => power_any (256 * (k : Int) + Y + 2) ((R + 2) / 30) ((R + 2) % 30) w hr2.out (by omega) (by omega)
      go_wp2_with fail
      refine (P1.out _).mono ?_
      rintro e w4 ⟨g4, c4, rfl, s4, hb4⟩
      have hx4 := Lib.hid (hsl.out.below hb4)
      have hbel4 := Lib.hid (Buf.then_ hbel.out hb4)
      replace s4 := Lib.hid s4
      clear hb4
      have C1 := Lib.hid (Compare_any g4 c4 (R / 30 + 1) g c X.length (pw (R / 30) (R % 30)) X w4 s4.out hx4.out (pw_vl _ _ (by omega)) hvl.out (pw_length _ _).symm rfl)
      go_wp2_with fail
      refine C1.out.mono ?_
      rintro e w5 ⟨ht, m5, rfl⟩
      have hle : val (pw (R / 30) (R % 30)) ≤ val X := by
        rw [pw_val, hval.out, show 30 * (R / 30) + R % 30 = R by omega]; exact lo'.out
      have hx5 := Lib.hid (hx4.out.below (Buf.below_drewN (Below.refl _ _) m5))
      have hbel5 := Lib.hid (Buf.below_drewN hbel4.out m5)
      rcases ht with ⟨rfl, _⟩ | ⟨_, h⟩ | ⟨rfl, _⟩
      · clear hle
        go_wp2_with fail
        refine (P2.out _).mono ?_
        rintro e w6 ⟨g6, c6, rfl, s6, hb6⟩
        have hx6 := Lib.hid (hx5.out.below hb6)
        have hbel6 := Lib.hid (Buf.then_ hbel5.out hb6)
        replace s6 := Lib.hid s6
        clear hb6
        have C2 := Lib.hid (Compare_any g c X.length g6 c6 ((R + 2) / 30 + 1) X (pw ((R + 2) / 30) ((R + 2) % 30)) w6 hx6.out s6.out hvl.out (pw_vl _ _ (by omega)) rfl (pw_length _ _).symm)
        go_wp2_with fail
        refine C2.out.mono ?_
        rintro e w7 ⟨ht, m7, rfl⟩
        have hlt : val X < val (pw ((R + 2) / 30) ((R + 2) % 30)) := by
          rw [pw_val, hval.out, show 30 * ((R + 2) / 30) + (R + 2) % 30 = R + 2 by omega]; exact hi'.out
        have hbel7 := Lib.hid (Buf.below_drewN hbel6.out m7)
        rcases ht with ⟨rfl, _⟩ | ⟨_, h⟩ | ⟨_, h⟩
        · clear hlt
          go_wp2_with (go_at_call 13; refine (awake_any _).mono ?_; rintro e w8 ⟨rfl, hb⟩)
          go_ret
          exact ⟨rfl, Buf.then_ hbel7.out hb⟩
        · exact absurd hlt (by omega)
        · exact absurd hlt (by omega)
      · exact absurd hle (by omega)
      · clear hle
        go_wp2_with fail
        refine (P2.out _).mono ?_
        rintro e w6 ⟨g6, c6, rfl, s6, hb6⟩
        have hx6 := Lib.hid (hx5.out.below hb6)
        have hbel6 := Lib.hid (Buf.then_ hbel5.out hb6)
        replace s6 := Lib.hid s6
        clear hb6
        have C2 := Lib.hid (Compare_any g c X.length g6 c6 ((R + 2) / 30 + 1) X (pw ((R + 2) / 30) ((R + 2) % 30)) w6 hx6.out s6.out hvl.out (pw_vl _ _ (by omega)) rfl (pw_length _ _).symm)
        go_wp2_with fail
        refine C2.out.mono ?_
        rintro e w7 ⟨ht, m7, rfl⟩
        have hlt : val X < val (pw ((R + 2) / 30) ((R + 2) % 30)) := by
          rw [pw_val, hval.out, show 30 * ((R + 2) / 30) + (R + 2) % 30 = R + 2 by omega]; exact hi'.out
        have hbel7 := Lib.hid (Buf.below_drewN hbel6.out m7)
        rcases ht with ⟨rfl, _⟩ | ⟨_, h⟩ | ⟨_, h⟩
        · clear hlt
          go_wp2_with (go_at_call 13; refine (awake_any _).mono ?_; rintro e w8 ⟨rfl, hb⟩)
          go_ret
          exact ⟨rfl, Buf.then_ hbel7.out hb⟩
        · exact absurd hlt (by omega)
        · exact absurd hlt (by omega)
end Laws
end Go.Proofs.Ytaogfoodddkakaa
