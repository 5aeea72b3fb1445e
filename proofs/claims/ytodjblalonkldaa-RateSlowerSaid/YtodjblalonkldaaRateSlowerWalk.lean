/- The walk of RateSlower. -/
import Derived.Test.YtodjblalonkldaaRateC
import Derived.Test.YtodjblalonkldaaRateM
namespace Go.Proofs.Ytodjblalonkldaa
open Go.RowKit Dice Rate
namespace Laws
/-- What Slower answers. -/
structure Slow (n d m A B : Int) : Prop where
  rv : RV A B
  same : ∀ k, el A B k = el n d (k * m)
  calls : ∀ w, Calls Try.prog 54 #[.agg #[.int .i64 n, .int .i64 d], .int .i64 m] w fun e w' => e = .returned (.tuple #[.agg #[.int .i64 A, .int .i64 B], .int .i64 0]) ∧ Below w.heap.size w w'
def NotSlow (n d m : Int) : Prop := ∀ w, Calls Try.prog 54 #[.agg #[.int .i64 n, .int .i64 d], .int .i64 m] w fun e w' => e = .returned (.tuple #[.agg #[.int .i64 0, .int .i64 0], .int .i64 8]) ∧ Below w.heap.size w w'
theorem slow_of (n d m : Int) (h : RV n d) (m1 : 1 ≤ m) (m2 : m ≤ 64) : (∃ A B, Slow n d m A B) ∨ NotSlow n d m := by
  obtain ⟨n1, n2, d1, d2, _⟩ := id h
  obtain ⟨N, rfl⟩ := Int.eq_ofNat_of_zero_le (show 0 ≤ n by omega)
  obtain ⟨D, hD⟩ := Int.eq_ofNat_of_zero_le (show 0 ≤ d * m from Int.mul_nonneg (by omega) (by omega))
  have dm0 : 1 * 1 ≤ d * m := Int.mul_le_mul d1 m1 (by omega) (by omega)
  have dm1 : d * m ≤ 4096 * 64 := Int.mul_le_mul d2 m2 (by omega) (by omega)
  have g0 : 0 < Nat.gcd N D := Nat.gcd_pos_of_pos_left _ (by omega)
  have ga : Nat.gcd N D ≤ N := Nat.gcd_le_left _ (by omega)
  have gb : Nat.gcd N D ≤ D := Nat.gcd_le_right _ (by omega)
  have p1 : 0 < N / Nat.gcd N D := Nat.div_pos ga g0
  have p2 : 0 < D / Nat.gcd N D := Nat.div_pos gb g0
  have q1 := Nat.div_le_self N (Nat.gcd N D)
  have q2 := Nat.div_le_self D (Nat.gcd N D)
  have hg := Nat.gcd_div_gcd_div_gcd_of_pos_left (m := D) (show 0 < N by omega)
  have e1 : (N : Int) / ((Nat.gcd N D : Nat) : Int) = ((N / Nat.gcd N D : Nat) : Int) := (Int.natCast_ediv _ _).symm
  have e2 : (d * m) / ((Nat.gcd N D : Nat) : Int) = ((D / Nat.gcd N D : Nat) : Int) := by rw [hD]; exact (Int.natCast_ediv _ _).symm
  have G : ∀ w, Calls Try.prog 81 #[.int .i64 N, .int .i64 (d * m)] w fun e w' => e = .returned (.int .i64 (Nat.gcd N D : Nat)) ∧ ∃ m, w' = w.drewN m := fun w => by
    rw [hD]; exact divisor_any N D w (by omega) (by omega)
  by_cases hb : D / Nat.gcd N D ≤ 4096
  · left
    refine ⟨((N / Nat.gcd N D : Nat) : Int), ((D / Nat.gcd N D : Nat) : Int), ⟨by omega, by omega, by omega, by omega, hg⟩, fun k => ?_, fun w => ?_⟩
    · have hN : (N : Int) = ((N / Nat.gcd N D : Nat) : Int) * ((Nat.gcd N D : Nat) : Int) := by
        have := Nat.div_mul_cancel (Nat.gcd_dvd_left N D); exact_mod_cast this.symm
      have hDm : d * m = ((D / Nat.gcd N D : Nat) : Int) * ((Nat.gcd N D : Nat) : Int) := by
        rw [hD]; have := Nat.div_mul_cancel (Nat.gcd_dvd_right N D); exact_mod_cast this.symm
      unfold el
      have hx : k * m * (d * 1000000) = k * (((D / Nat.gcd N D : Nat) : Int) * 1000000) * ((Nat.gcd N D : Nat) : Int) := by
        have : k * m * (d * 1000000) = k * ((d * m) * 1000000) := by
          simp only [Int.mul_assoc, Int.mul_comm, Int.mul_left_comm]
        rw [this, hDm]
        simp only [Int.mul_assoc, Int.mul_comm, Int.mul_left_comm]
      rw [hx]
      generalize ((N / Nat.gcd N D : Nat) : Int) = A at *
      generalize ((D / Nat.gcd N D : Nat) : Int) = B at *
      rw [hN, Int.mul_ediv_mul_of_pos_left _ _ (by omega)]
    · exact slower_yes N d m (Nat.gcd N D : Nat) _ _ h w m1 m2 (by omega) (by rw [e1]; omega) (by rw [e1]; omega) (by rw [e2]; omega) (by rw [e2]; omega) (Lib.hid e1) (Lib.hid e2) ⟨by omega, by omega, by omega, by omega, hg⟩ G
  · right
    intro w
    exact slower_no N d m (Nat.gcd N D : Nat) _ _ h w m1 m2 (by omega) (by rw [e1]; omega) (by rw [e1]; omega) (by rw [e2]; omega) (by rw [e2]; omega) (Lib.hid e1) (Lib.hid e2) (by omega) G
theorem blk_below {w w' : World} {g : Nat} {o : Obj} (h : w.heap[g]? = some o) (hb : Below w.heap.size w w') : w'.heap[g]? = some o := by
  rw [hb.block g (Array.getElem?_eq_some_iff.1 h).1]; exact h
theorem blk_alloc {w : World} {g : Nat} {o : Obj} (h : w.heap[g]? = some o) (o' : Obj) : (w.alloc o').heap[g]? = some o := blk_below h (new_block _)
theorem pair_cells {w : World} {g : Nat} {x y : Value} {t : TypeId} (h : w.heap[g]? = some (.cells #[x, y] t (0, 0))) : w.cell? ⟨g, 0, none⟩ = some x ∧ w.cell? ⟨g, 1, none⟩ = some y :=
  ⟨cell_of_row w g 0 _ _ _ h, cell_of_row w g 1 _ _ _ h⟩
set_option maxHeartbeats 4000000 in
set_option maxRecDepth 100000 in
theorem rateSlower_walk (a0 : Option Addr) (len0 cap0 : Nat) (z0 : List Int) (a1 : Int) (a2 : Int) (w : World) (w0 : Buf.IsRow .i64 w a0 len0 cap0 z0) (w1 : (Lit.int .u32 a1).wf = true) (w2 : (Lit.int .u16 a2).wf = true) :
    Calls Try.prog 10 #[.slice a0 len0 cap0, .int .u32 a1, .int .u16 a2] w fun e w' => e = .returned (.bool true) ∧ Below w.heap.size w w' := by
  obtain ⟨s0, s1⟩ := Ma.wf_u32 w1
  obtain ⟨k0, k1⟩ := Ma.wf_u16 w2
  clear w1 w2
  by_cases hs : len0 ≤ 500
  · have hd : decide ((len0 : Int) ≤ 500) = true := by simp; omega
    go_enter Try.func10, Try.ntmps10
    go_wp2_with (first | (go_at_call 14; refine (light_any _ _ _ _).mono ?_; rintro e w1 ⟨rfl, rfl⟩; rw [hd]) | (go_at_call 16; refine (roll_any a0 len0 cap0 z0 _ w0 hs).mono ?_; rintro e w2 ⟨rfl, hdi⟩))
    refine (rate_any hdi).mono ?_
    rintro e w3 ⟨⟨n, d, rfl, hrv⟩, hl⟩
    have hl3 := hl.di.below (new_block (.cells #[.int .i64 n, .int .i64 d] 62))
    have hlt3 := hl.di.lt
    have hbel : Hid (Below w1.heap.size w1 w3) := Lib.hid hl.di.bel
    clear hl hdi w0
    go_wp2_with fail
    refine (next_any 8 hl3 (by omega) (by omega)).mono ?_
    rintro e w4 ⟨⟨x, rfl, x0, x1⟩, hl4⟩
    have hb4 : Hid (Below w1.heap.size w1 w4) := Lib.hid hl4.di.bel
    have hbx : w4.heap[w3.heap.size]? = some (.cells #[.int .i64 n, .int .i64 d] 62 (0, 0)) := by
      rw [hl4.far.block w3.heap.size (by simp) (by simpa using Nat.ne_of_gt hlt3)]; exact heap_alloc_new _ _
    have q0 := cell_of_row w4 w3.heap.size 0 _ _ _ hbx
    have q1 := cell_of_row w4 w3.heap.size 1 _ _ _ hbx
    clear hl3 hl4 hlt3
    rcases slow_of n d (1 + x) hrv (by omega) (by omega) with ⟨A, B, hS⟩ | hS
    · have HS := Lib.hid hS.calls
      have HE := Lib.hid (hS.same a2)
      have hrv2 := Lib.hid hS.rv
      clear hS
      go_wp2_with fail
      with_reducible refine (HS.out _).mono ?_
      rintro e w5 ⟨rfl, hb⟩
      have e5 : (w5.alloc (.cells #[.int .i64 A, .int .i64 B] 62)).heap.size = w5.heap.size + 1 := by simp
      have hby : (w5.alloc (.cells #[.int .i64 A, .int .i64 B] 62)).heap[w5.heap.size]? = some (.cells #[.int .i64 A, .int .i64 B] 62 (0, 0)) := heap_alloc_new _ _
      have hbx5 := blk_alloc (blk_below hbx hb) (.cells #[.int .i64 A, .int .i64 B] 62)
      have hb5 : Hid (Below w1.heap.size w1 (w5.alloc (.cells #[.int .i64 A, .int .i64 B] 62))) := Lib.hid (Buf.then_ hb4.out (Buf.then_ hb (new_block _)))
      obtain ⟨p0, p1⟩ := pair_cells hby
      obtain ⟨r0, r1⟩ := pair_cells hbx5
      replace hbx := Lib.hid hbx5
      clear hby q0 q1 hb hb4 e5 hbx5
      have T1 : Hid (∀ w, Calls Try.prog 44 #[.int .i64 a1, .agg #[.int .i64 A, .int .i64 B], .int .i64 a2] w fun e w' => e = .returned (.tuple #[.int .i64 (a1 + el A B a2), .int .i64 0]) ∧ Below w.heap.size w w') :=
        Lib.hid fun w => time_ok a1 A B a2 hrv2.out w s0 (by omega) k0 (by omega)
      have mk0 : 0 ≤ a2 * (1 + x) := Int.mul_nonneg k0 (by omega)
      have mk1 : a2 * (1 + x) ≤ 65535 * 8 := Int.mul_le_mul k1 (by omega) (by omega) (by omega)
      have T2 : Hid (∀ w, Calls Try.prog 44 #[.int .i64 a1, .agg #[.int .i64 n, .int .i64 d], .int .i64 (a2 * (1 + x))] w fun e w' => e = .returned (.tuple #[.int .i64 (a1 + el A B a2), .int .i64 0]) ∧ Below w.heap.size w w') :=
        Lib.hid fun w => by rw [HE.out]; exact time_ok a1 n d (a2 * (1 + x)) hrv w s0 (by omega) mk0 (by omega)
      obtain ⟨l0, l1⟩ := el_small A B a2 hrv2.out.n1 hrv2.out.d1 hrv2.out.d2 k0 (by omega)
      generalize el A B a2 = E at *
      replace HE := Lib.hid HE
      go_wp2_with fail
      with_reducible refine (T1.out _).mono ?_
      rintro e w7 ⟨rfl, hb⟩
      obtain ⟨u0, u1⟩ := pair_cells (blk_below hbx.out hb)
      have hb7 := Lib.hid (Buf.then_ hb5.out hb)
      clear hb T1 hb5 p0 p1 r0 r1
      go_wp2_with fail
      with_reducible refine (T2.out _).mono ?_
      rintro e w8 ⟨rfl, hb⟩
      have hb8 := Lib.hid (Buf.then_ hb7.out hb)
      clear hb hb7 T2
      go_wp2_with (go_at_call 40; refine (sane_any _).mono ?_; rintro e w9 ⟨rfl, hb⟩)
      go_ret
      exact ⟨rfl, Buf.then_ hb8.out hb⟩
    · have HS : Hid (∀ w, Calls Try.prog 54 #[.agg #[.int .i64 n, .int .i64 d], .int .i64 (1 + x)] w fun e w' => e = .returned (.tuple #[.agg #[.int .i64 0, .int .i64 0], .int .i64 8]) ∧ Below w.heap.size w w') := Lib.hid hS
      clear hS
      go_wp2_with fail
      with_reducible refine (HS.out _).mono ?_
      rintro e w5 ⟨rfl, hb⟩
      have hb5 := Lib.hid (Buf.then_ hb4.out hb)
      clear hb q0 q1
      go_wp2_with (go_at_call 40; refine (sane_any _).mono ?_; rintro e w9 ⟨rfl, hb⟩)
      go_ret
      exact ⟨rfl, Buf.then_ hb5.out (Buf.then_ (new_block _) hb)⟩
  · have hd : decide ((len0 : Int) ≤ 500) = false := by simp; omega
    go_enter Try.func10, Try.ntmps10
    go_wp2_with (first | (go_at_call 14; refine (light_any _ _ _ _).mono ?_; rintro e w1 ⟨rfl, rfl⟩; rw [hd]) | (go_at_call 40; refine (sane_any _).mono ?_; rintro e w2 ⟨rfl, hb⟩))
    go_ret
    exact ⟨rfl, hb⟩
end Laws
end Go.Proofs.Ytodjblalonkldaa
