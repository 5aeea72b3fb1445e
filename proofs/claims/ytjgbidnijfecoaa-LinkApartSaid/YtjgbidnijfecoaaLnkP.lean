/- The reference's Valid of a wire. -/
import Derived.Test.YtjgbidnijfecoaaLnkL
import Derived.Test.YtjgbidnijfecoaaLnkI
set_option linter.unusedVariables false
set_option linter.unusedSimpArgs false
namespace Go.Proofs.Ytjgbidnijfecoaa
open Go.RowKit Wi Dice
namespace Lnk
theorem in_yes (n lo hi : Int) (w : World) (h1 : lo ≤ n) (h2 : n ≤ hi) :
    Calls Try.prog 24 #[.int .i64 n, .int .i64 lo, .int .i64 hi] w fun e w' => e = .returned (.bool true) ∧ w' = w := by
  go_enter Try.func24, Try.ntmps24
  go_wp2
  go_ret
  exact ⟨rfl, rfl⟩
set_option maxRecDepth 100000 in
set_option maxHeartbeats 4000000 in
theorem refvalid_yes {B : Nat} {w : World} {v : Value} {L : List T3} (now ord : Int) (G : Good now ord L) (h : Its B w v L) :
    Calls Try.prog 14 #[.agg #[.int .i64 now, .int .i64 ord, v]] w fun e w' => e = .returned (.bool true) ∧ Below w.heap.size w w' := by
  have HG := Lib.hid G
  obtain ⟨n0, n1, o0, o1, hlen, _, _⟩ := G
  have IN := Lib.hid in_yes
  rcases h with ⟨rfl, rfl⟩ | ⟨g, c, rfl, hc, hc2, hB, hg, hcell⟩
  · have B0 := Lib.hid (heap_alloc_new w (.cells #[.int .i64 now, .int .i64 ord, .slice none 0 0] 29))
    have W0 : Hid (Below w.heap.size w (w.alloc (.cells #[.int .i64 now, .int .i64 ord, .slice none 0 0] 29))) := Lib.hid (new_block _)
    go_enter Try.func14, Try.ntmps14
    go_upto_region 1 with fail
    generalize w.alloc (.cells #[.int .i64 now, .int .i64 ord, .slice none 0 0] 29) = w1 at *
    obtain ⟨k0, k1, k2⟩ := c3 B0.out
    go_wp2_with (go_at_call 24; refine (in_yes _ _ _ _ (by omega) (by omega)).mono ?_; rintro e w' ⟨rfl, hw⟩; replace hw := hw.symm; subst hw)
    go_loop [3] (fun i => i = .int .i64 0) (fun _ => 0)
    case atStart => rfl
    case round =>
      subst hrel
      go_wp2
      go_ret
      exact ⟨rfl, W0.out⟩
  · have HC := Lib.hid hcell
    have B0 := Lib.hid (heap_alloc_new w (.cells #[.int .i64 now, .int .i64 ord, .slice (some ⟨g, 0, none⟩) L.length c] 29))
    have W0 : Hid (Below w.heap.size w (w.alloc (.cells #[.int .i64 now, .int .i64 ord, .slice (some ⟨g, 0, none⟩) L.length c] 29))) := Lib.hid (new_block _)
    obtain ⟨n, hn⟩ : ∃ n, n = L.length := ⟨_, rfl⟩
    rw [← hn] at hlen hc B0 W0 ⊢
    have Hn := Lib.hid hn
    clear hcell hc2 hn
    go_enter Try.func14, Try.ntmps14
    go_upto_region 1 with fail
    generalize w.alloc (.cells #[.int .i64 now, .int .i64 ord, .slice (some ⟨g, 0, none⟩) n c] 29) = w1 at *
    obtain ⟨k0, k1, k2⟩ := c3 B0.out
    go_wp2_with (go_at_call 24; refine (in_yes _ _ _ _ (by omega) (by omega)).mono ?_; rintro e w' ⟨rfl, hw⟩; replace hw := hw.symm; subst hw)
    go_loopw [3] (fun i wr => ∃ k : Nat, k ≤ n ∧ i = .int .i64 k ∧ Hid (Below w.heap.size w wr) ∧ Hid (wr.heap[w.heap.size]? = some (.cells #[.int .i64 now, .int .i64 ord, .slice (some ⟨g, 0, none⟩) n c] 29 (0, 0)))) (fun i _ => n - (intOf i).toNat)
    case atStart => exact ⟨0, Nat.zero_le _, rfl, W0, B0⟩
    case round =>
      clear B0 W0 k0 k1 k2
      obtain ⟨k, hk, rfl, HB, B0⟩ := hrel
      obtain ⟨k0, k1, k2⟩ := c3 B0.out
      by_cases hlt : k < n
      · obtain ⟨⟨at_, od, s⟩, hp⟩ : ∃ p, L[k]? = some p := ⟨L[k]'(by rw [← Hn.out]; exact hlt), List.getElem?_eq_getElem _⟩
        obtain ⟨q0, q1, q2⟩ := HC.out k _ hp
        have c0 := (HB.out.cell (p := ⟨g, _, none⟩) hg).trans q0
        have c1 := (HB.out.cell (p := ⟨g, _, none⟩) hg).trans q1
        have c2 := (HB.out.cell (p := ⟨g, _, none⟩) hg).trans q2
        obtain ⟨i0, i1, i2, i3, i4⟩ := HG.out.it k _ hp
        dsimp only at i0 i1 i2 i3 i4 c0 c1 c2
        have HP := Lib.hid hp
        have IB := Lib.hid (heap_alloc_new wr (.cells #[.int .i64 at_, .int .i64 od, .string s] 55))
        have IW : Hid (Below wr.heap.size wr (wr.alloc (.cells #[.int .i64 at_, .int .i64 od, .string s] 55))) := Lib.hid (new_block _)
        clear q0 q1 q2 hp
        have hkn : (k : Int) < n := by omega
        go_upto_region 7 with fail
        clear k0 k1 k2 c0 c1 c2
        have HB2 := Lib.hid (Buf.then_ HB.out IW.out)
        have B2 := Lib.hid (hb IW.out B0.out)
        generalize wr.alloc (.cells #[.int .i64 at_, .int .i64 od, .string s] 55) = w2 at *
        generalize wr.heap.size = p2 at *
        obtain ⟨k0, k1, k2⟩ := c3 B2.out
        obtain ⟨t0, t1, t2⟩ := c3 IB.out
        have hsz : (s.size : Int) ≤ 4096 := by omega
        go_upto_region 9 with (go_at_call 24; refine (in_yes _ _ _ _ (by omega) (by omega)).mono ?_; rintro e w' ⟨rfl, hw⟩; replace hw := hw.symm; subst hw)
        have E3 := Lib.hid fun w' (h' : Below w2.heap.size w2 w') => c3 (hb h' B2.out)
        have E4 := Lib.hid fun w' (h' : Below w2.heap.size w2 w') => c3 (hb h' IB.out)
        clear k0 k1 k2 t0 t1 t2
        rcases Nat.eq_zero_or_pos k with rfl | hpos
        · refine Buf.region_calm w2 (by kernel_rfl) (by kernel_rfl) (Below.refl _ _) ?_
          repeat (go_big_quiet_step ((intro hC; first
            | rfl
            | (simp only [(E3.out _ hC).2.2, Result.andThen_ok]; exact ⟨trivial, rfl⟩)
            | (simp only [(E4.out _ hC).1, (E4.out _ hC).2.1, (E4.out _ hC).2.2, Result.andThen_ok]; exact ⟨trivial, rfl⟩))))
          refine wpQuiet_nil ?_
          intro w3 hb3
          have B3 := Lib.hid (hb hb3 B2.out)
          have W3 := Lib.hid (Buf.then_ HB2.out hb3)
          clear hb3 E3 E4 IB IW
          go_wp2_with fail
          go_roundw
          case rel => exact ⟨1, by omega, by go_num, W3, B3⟩
          case measure => simp [intOf]; omega
        · obtain ⟨j, rfl⟩ : ∃ j, k = j + 1 := ⟨k - 1, by omega⟩
          obtain ⟨⟨at2, od2, s2⟩, hp2⟩ : ∃ p, L[j]? = some p := ⟨L[j]'(by rw [← Hn.out]; omega), List.getElem?_eq_getElem _⟩
          obtain ⟨q0, q1, q2⟩ := HC.out j _ hp2
          have hasc := HG.out.asc j _ _ hp2 HP.out
          dsimp only at hasc
          have E5 : Hid (∀ w', Below w2.heap.size w2 w' → w'.cell? ⟨g, j * 3, none⟩ = some (.int .i64 at2) ∧ w'.cell? ⟨g, j * 3 + 1, none⟩ = some (.int .i64 od2)) := Lib.hid fun w' hb' => by
            have hb2 := Buf.then_ HB2.out hb'
            exact ⟨(hb2.cell (p := ⟨g, _, none⟩) hg).trans q0, (hb2.cell (p := ⟨g, _, none⟩) hg).trans q1⟩
          clear q0 q1 q2 hp2 hpos
          have hj1 : (j : Int) < n := by omega
          have hjw : IntKind.i64.wrap ((j : Int) + 1 - 1) = (j : Int) := by rw [show (j : Int) + 1 - 1 = j by omega]; exact IntWalk.i64_in _ (by omega)
          rcases hasc with h1 | ⟨rfl, h1⟩
          · refine Buf.region_calm w2 (by kernel_rfl) (by kernel_rfl) (Below.refl _ _) ?_
            have h2 : decide (at_ < at2) = false := decide_eq_false (by omega)
            have h3 : (at2 == at_) = false := by rw [beq_eq_false_iff_ne]; omega
            repeat (go_big_quiet_step ((intro hC; first
              | rfl
              | (simp only [(E3.out _ hC).2.2, Result.andThen_ok]; exact ⟨trivial, rfl⟩)
              | (simp only [(E4.out _ hC).1, (E4.out _ hC).2.1, (E4.out _ hC).2.2, Result.andThen_ok]; exact ⟨trivial, rfl⟩)
              | (simp only [(E5.out _ hC).1, (E5.out _ hC).2, Result.andThen_ok]; exact ⟨trivial, rfl⟩))))
            refine wpQuiet_nil ?_
            intro w3 hb3
            have B3 := Lib.hid (hb hb3 B2.out)
            have W3 := Lib.hid (Buf.then_ HB2.out hb3)
            clear hb3 E3 E4 E5 IB IW
            go_wp2_with fail
            go_roundw
            case rel => exact ⟨j + 2, by omega, by go_num, W3, B3⟩
            case measure => simp [intOf]; omega
          · refine Buf.region_calm w2 (by kernel_rfl) (by kernel_rfl) (Below.refl _ _) ?_
            have h2 : decide (at2 < at2) = false := decide_eq_false (by omega)
            have h3 : decide (od ≤ od2) = false := decide_eq_false (by omega)
            repeat (go_big_quiet_step ((intro hC; first
              | rfl
              | (simp only [(E3.out _ hC).2.2, Result.andThen_ok]; exact ⟨trivial, rfl⟩)
              | (simp only [(E4.out _ hC).1, (E4.out _ hC).2.1, (E4.out _ hC).2.2, Result.andThen_ok]; exact ⟨trivial, rfl⟩)
              | (simp only [(E5.out _ hC).1, (E5.out _ hC).2, Result.andThen_ok]; exact ⟨trivial, rfl⟩))))
            refine wpQuiet_nil ?_
            intro w3 hb3
            have B3 := Lib.hid (hb hb3 B2.out)
            have W3 := Lib.hid (Buf.then_ HB2.out hb3)
            clear hb3 E3 E4 E5 IB IW
            go_wp2_with fail
            go_roundw
            case rel => exact ⟨j + 2, by omega, by go_num, W3, B3⟩
            case measure => simp [intOf]; omega
      · obtain rfl : k = n := by omega
        go_wp2
        go_ret
        exact ⟨rfl, HB.out⟩
end Lnk
end Go.Proofs.Ytjgbidnijfecoaa
