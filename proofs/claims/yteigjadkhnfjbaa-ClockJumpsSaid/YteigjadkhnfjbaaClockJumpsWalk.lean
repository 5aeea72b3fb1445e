/- The walk of ClockJumps. -/
import Derived.Test.YteigjadkhnfjbaaClockJ
namespace Go.Proofs.Yteigjadkhnfjbaa
open Go.RowKit Wi Dice
namespace Laws
open Clock
/-- What Correct answers at a tag. -/
def CC (x a1 tag r o : Int) : Prop := ∀ (g : Nat) (w : World), An w g 0 1000 1000000000000 (1000000000000 + x) → An w g 3 5000 (1000000004000 + (100 + a1)) (1000000004000 + (100 + a1) + x) →
  Calls Try.prog 10 #[.slice (some ⟨g, 0, none⟩) 2 2, .int .i64 0, .int .i64 tag] w fun e w' => e = .returned (.tuple #[.int .i64 r, .int .i64 o, .int .i64 0]) ∧ Below w.heap.size w w'
theorem two_of (x a1 : Int) (x0 : 0 ≤ x) (x1 : x < 40) (b0 : 0 ≤ a1) (b1 : a1 ≤ 65535) : Two 1000 1000000000000 (1000000000000 + x) 5000 (1000000004000 + (100 + a1)) (1000000004000 + (100 + a1) + x) :=
  ⟨by omega, by omega, by omega, by omega, by omega, by omega, by omega, by omega, by omega⟩
theorem cc_hi (x a1 k : Int) (x0 : 0 ≤ x) (x1 : x < 40) (b0 : 0 ≤ a1) (b1 : a1 ≤ 65535) (k0 : 0 ≤ k) (k1 : k ≤ 255) : CC x a1 (5000 + k * 10) (1000000004000 + (100 + a1) + k * 10 + x / 2) (x - x / 2) := by
  intro g w a b
  have T := two_of x a1 x0 x1 b0 b1
  have h := correct_of T (by omega) (by omega) g (5000 + k * 10) (1000000004000 + (100 + a1) + (5000 + k * 10 - 5000)) (1000000004000 + (100 + a1) + x + (5000 + k * 10 - 5000)) w (by omega) (by omega) (by omega) (by omega) (by omega) a b
    (fun p c w _ b hp => bounds_hi T g p c (5000 + k * 10) w (by omega) (by omega) (by omega) b hp)
  rwa [show (1000000004000 + (100 + a1) + (5000 + k * 10 - 5000) + (1000000004000 + (100 + a1) + x + (5000 + k * 10 - 5000))) / 2 = 1000000004000 + (100 + a1) + k * 10 + x / 2 by omega, show 1000000004000 + (100 + a1) + x + (5000 + k * 10 - 5000) - (1000000004000 + (100 + a1) + k * 10 + x / 2) = x - x / 2 by omega] at h
theorem cc_lt (x a1 k : Int) (x0 : 0 ≤ x) (x1 : x < 40) (b0 : 0 ≤ a1) (b1 : a1 ≤ 65535) (k0 : 0 ≤ k) (k1 : k ≤ 255) : CC x a1 (999 - k * 10 / 3) (999999999999 - k * 10 / 3 + x / 2) (x - x / 2) := by
  intro g w a b
  have T := two_of x a1 x0 x1 b0 b1
  have h := correct_of T (by omega) (by omega) g (999 - k * 10 / 3) (1000000000000 - (1000 - (999 - k * 10 / 3))) (1000000000000 + x - (1000 - (999 - k * 10 / 3))) w (by omega) (by omega) (by omega) (by omega) (by omega) a b
    (fun p c w a b hp => bounds_lt T g p c (999 - k * 10 / 3) w (by omega) (by omega) (by omega) a b hp)
  rwa [show (1000000000000 - (1000 - (999 - k * 10 / 3)) + (1000000000000 + x - (1000 - (999 - k * 10 / 3)))) / 2 = 999999999999 - k * 10 / 3 + x / 2 by omega, show 1000000000000 + x - (1000 - (999 - k * 10 / 3)) - (999999999999 - k * 10 / 3 + x / 2) = x - x / 2 by omega] at h
theorem cc_mid (x a1 k : Int) (x0 : 0 ≤ x) (x1 : x < 40) (b0 : 0 ≤ a1) (b1 : a1 ≤ 65535) (k0 : 0 ≤ k) (k1 : k ≤ 255) : ∃ c z, CC x a1 (1000 + k * 10) c z ∧ 0 ≤ c ∧ c ≤ 2000000000000 ∧ 0 ≤ z ∧ z ≤ 2000000000000 ∧ c - z - 1 ≤ 1000000000000 + k * 10 ∧ 1000000000000 + (100 + a1) + k * 10 + x ≤ c + z ∧ (100 + a1) / 2 ≤ z := by
  have T := two_of x a1 x0 x1 b0 b1
  refine ⟨_, _, fun g w a b => correct_of T (by omega) (by omega) g (1000 + k * 10) (1000000000000 + (1000 + k * 10 - 1000)) (1000000004000 + (100 + a1) + x - (5000 - (1000 + k * 10))) w (by omega) (by omega) (by omega) (by omega) (by omega) a b
    (fun p c w a b hp => bounds_mid T g p c (1000 + k * 10) w (by omega) (by omega) (by omega) (by omega) (by omega) a b hp), ?_⟩
  omega
set_option maxHeartbeats 4000000 in
set_option maxRecDepth 100000 in
theorem clockJumps_walk (a0 : Option Addr) (len0 cap0 : Nat) (z0 : List Int) (a1 : Int) (a2 : Int) (w : World) (w0 : Buf.IsRow .i64 w a0 len0 cap0 z0) (w1 : (Lit.int .u16 a1).wf = true) (w2 : (Lit.int .u8 a2).wf = true) :
    Calls Try.prog 3 #[.slice a0 len0 cap0, .int .u16 a1, .int .u8 a2] w fun e w' => e = .returned (.bool true) ∧ Below w.heap.size w w' := by
  obtain ⟨b0, b1⟩ := Ma.wf_u16 w1
  obtain ⟨n0, n1⟩ := Ma.wf_u8 w2
  clear w1 w2
  by_cases hs : len0 ≤ 500
  · have hd : decide ((len0 : Int) ≤ 500) = true := by simp; omega
    go_enter Try.func3, Try.ntmps3
    go_wp2_with (first | (go_at_call 5; refine (light_any _ _ _ _).mono ?_; rintro e w1 ⟨rfl, rfl⟩; rw [hd]) | (go_at_call 7; refine (roll_any a0 len0 cap0 z0 _ w0 hs).mono ?_; rintro e w2 ⟨rfl, hdi⟩))
    refine (next_any 40 hdi (by omega) (by omega)).mono ?_
    rintro e w3 ⟨⟨x, rfl, x0, x1⟩, hl⟩
    have hbel : Hid (Below w1.heap.size w1 w3) := Lib.hid hl.di.bel
    clear hl hdi w0
    have T := two_of x a1 x0 x1 b0 b1
    have S := Lib.hid (six (t := 30) (heap_alloc_new w3 (.cells #[.int .i64 1000, .int .i64 1000000000000, .int .i64 (1000000000000 + x), .int .i64 5000, .int .i64 (1000000004000 + (100 + a1)), .int .i64 (1000000004000 + (100 + a1) + x)] 30)))
    have hb4 : Hid (Below w1.heap.size w1 (w3.alloc (.cells #[.int .i64 1000, .int .i64 1000000000000, .int .i64 (1000000000000 + x), .int .i64 5000, .int .i64 (1000000004000 + (100 + a1)), .int .i64 (1000000004000 + (100 + a1) + x)] 30))) := Lib.hid (Buf.then_ hbel.out (new_block _))
    have J := Lib.hid (jumps2g T (by omega) (by omega) w3.heap.size _ S.out.1 S.out.2)
    have K1 := Lib.hid (cc_hi x a1 a2 x0 x1 b0 b1 n0 n1)
    have K2 := Lib.hid (cc_lt x a1 a2 x0 x1 b0 b1 n0 n1)
    obtain ⟨c, z, K3, c0, c1, z0, z1, e1, e2, e3⟩ := cc_mid x a1 a2 x0 x1 b0 b1 n0 n1
    replace K3 := Lib.hid K3
    clear T hbel
    go_wp2_with fail
    refine J.out.mono ?_
    rintro e w4 ⟨p, q, rfl, hq, hp, hb⟩
    have A4 := Lib.hid (S.out.1.below hb)
    have B4 := Lib.hid (S.out.2.below hb)
    have hb5 := Lib.hid (Buf.then_ hb4.out hb)
    clear hb hb4 J S
    go_wp2_with fail
    refine (K1.out _ _ A4.out B4.out).mono ?_
    rintro e w5 ⟨rfl, hb⟩
    have A5 := Lib.hid (A4.out.below hb)
    have B5 := Lib.hid (B4.out.below hb)
    have hb6 := Lib.hid (Buf.then_ hb5.out hb)
    clear hb hb5 A4 B4 hp
    go_wp2_with fail
    refine (K2.out _ _ A5.out B5.out).mono ?_
    rintro e w6 ⟨rfl, hb⟩
    have A6 := Lib.hid (A5.out.below hb)
    have B6 := Lib.hid (B5.out.below hb)
    have hb7 := Lib.hid (Buf.then_ hb6.out hb)
    clear hb hb6 A5 B5
    go_wp2_with fail
    refine (K3.out _ _ A6.out B6.out).mono ?_
    rintro e w7 ⟨rfl, hb⟩
    have hb8 := Lib.hid (Buf.then_ hb7.out hb)
    clear hb hb7 A6 B6 K1 K2 K3
    go_wp2_with (go_at_call 6; refine (Clock.sane_any _).mono ?_; rintro e w2 ⟨rfl, hb⟩)
    go_ret
    exact ⟨rfl, Buf.then_ hb8.out hb⟩
  · have hd : decide ((len0 : Int) ≤ 500) = false := by simp; omega
    go_enter Try.func3, Try.ntmps3
    go_wp2_with (first | (go_at_call 5; refine (light_any _ _ _ _).mono ?_; rintro e w1 ⟨rfl, rfl⟩; rw [hd]) | (go_at_call 6; refine (Clock.sane_any _).mono ?_; rintro e w2 ⟨rfl, hb⟩))
    go_ret
    exact ⟨rfl, hb⟩
end Laws
end Go.Proofs.Yteigjadkhnfjbaa
