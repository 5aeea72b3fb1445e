/- Contracts of package travel, whatever the valid table: Distances. -/
import Derived.Test.YtmmikihkfpkapaaTravAC
namespace Go.Proofs.Ytmmikihkfpkapaa
open Go.RowKit
namespace Trav
/-- Where a property that holds up to somewhere ends. -/
theorem thr (P : Nat → Prop) (n : Nat) (hm : ∀ i j, i ≤ j → j < n → P j → P i) : ∃ f, f ≤ n ∧ ∀ j, j < n → (P j ↔ j < f) := by
  induction n with
  | zero => exact ⟨0, Nat.le_refl _, fun j hj => absurd hj (by omega)⟩
  | succ n ih =>
    obtain ⟨f, hf, h⟩ := ih fun i j h1 h2 => hm i j h1 (by omega)
    by_cases hp : P n
    · refine ⟨n + 1, Nat.le_refl _, fun j hj => ⟨fun _ => hj, fun _ => hm j n (by omega) (by omega) hp⟩⟩
    · refine ⟨f, by omega, fun j hj => ?_⟩
      by_cases hj2 : j < n
      · exact h j hj2
      · obtain rfl : j = n := by omega
        exact ⟨fun hh => absurd hh hp, fun hh => absurd hh (by omega)⟩
theorem bs_bd {k s : Int} (k0 : -1 ≤ k) (k1 : k ≤ 256) (s1 : 1 ≤ s) (s9 : s ≤ 1048576) : -1048576 ≤ k * s ∧ k * s ≤ 268435456 := by
  have h1 : -s ≤ k * s := by
    have : 0 ≤ (k + 1) * s := Int.mul_nonneg (by omega) (by omega)
    rw [Int.add_mul, Int.one_mul] at this
    omega
  have h2 : k * s ≤ 256 * s := Int.mul_le_mul_of_nonneg_right k1 (by omega)
  omega
def DistSaid (s : Int) (n f g : Nat) (r : Ending) : Prop :=
  (f < n ∧ 0 < g ∧ max (((f : Int) - 1) * s + 1) 0 ≤ min ((g : Int) * s - 1) (s * ((n : Int) - 1)) ∧ r = .returned (.tuple #[.int .i64 (max (((f : Int) - 1) * s + 1) 0), .int .i64 (min ((g : Int) * s - 1) (s * ((n : Int) - 1))), .int .i64 0])) ∨
  ((n ≤ f ∨ g = 0 ∨ min ((g : Int) * s - 1) (s * ((n : Int) - 1)) < max (((f : Int) - 1) * s + 1) 0) ∧ r = .returned (.tuple #[.int .i64 0, .int .i64 0, .int .i64 24]))
set_option maxHeartbeats 2000000 in
set_option maxRecDepth 100000 in
theorem dist_any (s : Int) (b1 b2 n c1 c2 : Nat) (lo hi : List Int) (time : Int) (f g : Nat) (w : World) (h : TV w s b1 b2 n lo hi) (hf : f ≤ n) (hg : g ≤ n) (hF : ∀ j, j < n → (hi.getD j 0 < time ↔ j < f)) (hG : ∀ j, j < n → (lo.getD j 0 ≤ time ↔ j < g)) :
    Calls Try.prog 92 #[.agg #[.int .i64 s, .slice (some ⟨b1, 0, none⟩) n c1, .slice (some ⟨b2, 0, none⟩) n c2], .int .i64 time] w fun r w' => DistSaid s n f g r ∧ Below w.heap.size w w' := by
  obtain ⟨rb1, rb2⟩ := reach_bd h.s1 h.s9 h.n3 h.n9
  have hs := h.s1
  have hs9 := h.s9
  have hn3 := h.n3
  have hn9 := h.n9
  obtain ⟨fb1, fb2⟩ := bs_bd (k := (f : Int) - 1) (s := s) (by omega) (by omega) hs hs9
  obtain ⟨gb1, gb2⟩ := bs_bd (k := (g : Int)) (s := s) (by omega) (by omega) hs hs9
  have V := Lib.hid (validate_yes s b1 b2 n c1 c2 lo hi _ (h.below (new_block (.cells #[.int .i64 s, .slice (some ⟨b1, 0, none⟩) n c1, .slice (some ⟨b2, 0, none⟩) n c2] 30))))
  have R := Lib.hid fun w => reach_yes s b1 b2 n c1 c2 w h.s1 h.s9 h.n3 h.n9
  have hT := Lib.hid h
  have p1 : (w.alloc (.cells #[.int .i64 s, .slice (some ⟨b1, 0, none⟩) n c1, .slice (some ⟨b2, 0, none⟩) n c2] 30)).heap[w.heap.size]? = some (.cells #[.int .i64 s, .slice (some ⟨b1, 0, none⟩) n c1, .slice (some ⟨b2, 0, none⟩) n c2] 30 (0, 0)) := heap_alloc_new _ _
  replace p1 := Lib.hid p1
  have HF := Lib.hid hF
  have HG := Lib.hid hG
  clear h hF hG
  have n9' : (n : Int) ≤ 256 := by omega
  go_enter Try.func92, Try.ntmps92
  go_wp2_with fail
  refine V.out.mono ?_
  rintro e w1 ⟨rfl, hb⟩
  replace p1 := Lib.hid (blk_b hb p1.out)
  have hW := Lib.hid (Buf.then_ (new_block (.cells #[.int .i64 s, .slice (some ⟨b1, 0, none⟩) n c1, .slice (some ⟨b2, 0, none⟩) n c2] 30)) hb)
  replace hT := Lib.hid (hT.out.below (Buf.then_ (new_block (.cells #[.int .i64 s, .slice (some ⟨b1, 0, none⟩) n c1, .slice (some ⟨b2, 0, none⟩) n c2] 30)) hb))
  clear hb
  obtain ⟨x1, x2, x3⟩ := tcells p1.out
  go_wp2_with fail
  go_loop [8, 9, 21] (fun u v i => ∃ k : Nat, k ≤ n ∧ i = .int .i64 k ∧ u = .int .i64 ((min k f : Nat) : Int) ∧ v = .int .i64 ((min k g : Nat) : Int)) (fun _ _ i => n - (intOf i).toNat)
  case atStart => exact ⟨0, by omega, rfl, by simp, by simp⟩
  case round =>
    obtain ⟨k, hk, rfl, rfl, rfl⟩ := hrel
    by_cases hlt : k < n
    · have hlt' : (k : Int) < n := by omega
      have y1 := hT.out.at1 k hlt
      have y2 := hT.out.at2 k hlt
      have hfk := HF.out k hlt
      have hgk := HG.out k hlt
      generalize lo.getD k 0 = lk at *
      generalize hi.getD k 0 = hk2 at *
      have hu : Hid (((min (k + 1) f : Nat) : Int) = ((min k f : Nat) : Int) + (if k < f then 1 else 0)) := Lib.hid (by split <;> omega)
      have hv : Hid (((min (k + 1) g : Nat) : Int) = ((min k g : Nat) : Int) + (if k < g then 1 else 0)) := Lib.hid (by split <;> omega)
      have ub : (0 : Int) ≤ ((min k f : Nat) : Int) ∧ ((min k f : Nat) : Int) ≤ 256 := ⟨by omega, by omega⟩
      have vb : (0 : Int) ≤ ((min k g : Nat) : Int) ∧ ((min k g : Nat) : Int) ≤ 256 := ⟨by omega, by omega⟩
      obtain ⟨ub0, ub1⟩ := ub
      obtain ⟨vb0, vb1⟩ := vb
      generalize ((min k f : Nat) : Int) = um at *
      generalize ((min k g : Nat) : Int) = vm at *
      by_cases h1 : k < f
      all_goals by_cases h2 : k < g
      all_goals
        have d1 : decide (hk2 < time) = decide (k < f) := decide_eq_decide.2 hfk
        have d2 : decide (lk ≤ time) = decide (k < g) := decide_eq_decide.2 hgk
        simp only [h1, h2, decide_true, decide_false, if_true, if_false] at d1 d2 hu hv
        clear hfk hgk
        go_wp2
        go_round
        case rel => exact ⟨k + 1, by omega, by go_num, by first | (rw [hu.out]; done) | (rw [hu.out]; simp), by first | (rw [hv.out]; done) | (rw [hv.out]; simp)⟩
        case measure => simp [intOf]; omega
    · obtain rfl : k = n := by omega
      have e1 : ((min k f : Nat) : Int) = (f : Int) := by omega
      have e2 : ((min k g : Nat) : Int) = (g : Int) := by omega
      rw [e1, e2]
      clear e1 e2
      by_cases hA : f = k
      · have d1 : ((f : Int) == (k : Int)) = true := by simp [hA]
        have hA' := Lib.hid hA
        clear hA
        go_wp2
        go_ret3
        exact ⟨.inr ⟨.inl (by have := hA'.out; omega), rfl⟩, hW.out⟩
      · have d1 : ((f : Int) == (k : Int)) = false := by rw [beq_eq_false_iff_ne]; omega
        by_cases hB : g = 0
        · have d2 : ((g : Int) == 0) = true := by simp [hB]
          replace hB := Lib.hid hB
          clear hA
          go_wp2
          go_ret3
          exact ⟨.inr ⟨.inr (.inl hB.out), rfl⟩, hW.out⟩
        · have d2 : ((g : Int) == 0) = false := by rw [beq_eq_false_iff_ne]; omega
          by_cases hC : max (((f : Int) - 1) * s + 1) 0 ≤ min ((g : Int) * s - 1) (s * ((k : Int) - 1))
          · have d3 : decide (min ((g : Int) * s - 1) (s * ((k : Int) - 1)) < max (((f : Int) - 1) * s + 1) 0) = false := by rw [decide_eq_false_iff_not]; omega
            have fin : Hid (DistSaid s k f g (.returned (.tuple #[.int .i64 (max (((f : Int) - 1) * s + 1) 0), .int .i64 (min ((g : Int) * s - 1) (s * ((k : Int) - 1))), .int .i64 0]))) := Lib.hid (.inl ⟨by omega, by omega, hC, rfl⟩)
            clear hA hB hC
            go_wp2_with fail
            clear x1 x2 x3
            refine Buf.region_calm _ (by kernel_rfl) (by kernel_rfl) (Below.refl _ _) ?_
            repeat (go_big_quiet_step ((intro hC; first
              | (go_at_call 107; (with_reducible exact Buf.calm hC (R.out _)))
              | rfl
              | (simp only [(tcells (blk_b hC p1.out)).1, (tcells (blk_b hC p1.out)).2.1, (tcells (blk_b hC p1.out)).2.2, Result.andThen_ok]; first | exact ⟨trivial, rfl⟩ | rfl)
              | (simp only [(tcells (blk_b hC p1.out)).1]; exact rfl))))
            refine wpQuiet_nil ?_
            intro w3 hc
            go_wp2
            go_ret3
            exact ⟨fin.out, Buf.then_ hW.out hc⟩
          · have d3 : decide (min ((g : Int) * s - 1) (s * ((k : Int) - 1)) < max (((f : Int) - 1) * s + 1) 0) = true := by rw [decide_eq_true_eq]; omega
            have fin : Hid (DistSaid s k f g (.returned (.tuple #[.int .i64 0, .int .i64 0, .int .i64 24]))) := Lib.hid (.inr ⟨.inr (.inr (by omega)), rfl⟩)
            clear hA hB hC
            go_wp2_with fail
            clear x1 x2 x3
            refine Buf.region_calm _ (by kernel_rfl) (by kernel_rfl) (Below.refl _ _) ?_
            repeat (go_big_quiet_step ((intro hC; first
              | (go_at_call 107; (with_reducible exact Buf.calm hC (R.out _)))
              | rfl
              | (simp only [(tcells (blk_b hC p1.out)).1, (tcells (blk_b hC p1.out)).2.1, (tcells (blk_b hC p1.out)).2.2, Result.andThen_ok]; first | exact ⟨trivial, rfl⟩ | rfl)
              | (simp only [(tcells (blk_b hC p1.out)).1]; exact rfl))))
            refine wpQuiet_nil ?_
            intro w3 hc
            go_wp2
            go_ret3
            exact ⟨fin.out, Buf.then_ hW.out hc⟩
end Trav
end Go.Proofs.Ytmmikihkfpkapaa
