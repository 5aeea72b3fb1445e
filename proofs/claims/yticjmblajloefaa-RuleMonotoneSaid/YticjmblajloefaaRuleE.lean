/- rule.Timely; apart and Agree at any numbers. -/
import Derived.Test.YticjmblajloefaaRuleD
set_option linter.unusedVariables false
namespace Go.Proofs.Yticjmblajloefaa
open Go.RowKit
namespace Ru
theorem agree_any (a b c d : Int) (w : World) :
    Calls Try.prog 25 #[.agg #[.int .i64 a, .int .i64 b], .agg #[.int .i64 c, .int .i64 d]] w fun e w' => e = .returned (.bool (decide (max a c ≤ min b d))) ∧ Below w.heap.size w w' := by
  have hB := fun o1 o2 => Lib.hid (((Below.refl w.heap.size w).alloc (Nat.le_refl _) o1).alloc (by simp) o2)
  go_enter Try.func25, Try.ntmps25
  go_wp2
  all_goals (go_ret; exact ⟨congrArg (fun z => Ending.returned (.bool z)) (decide_eq_decide.2 (by omega)), (hB _ _).out⟩)
theorem u64w (x : Int) (h0 : 0 ≤ x) (h9 : x ≤ 9007199254740992) : IntKind.u64.wrap x = x := IntWalk.u64_in x ⟨h0, by omega⟩
theorem apart_any (a b d : Int) (w : World) (a0 : 0 ≤ a) (a9 : a ≤ 9007199254740992) (b0 : 0 ≤ b) (b9 : b ≤ 9007199254740992) (d0 : 0 ≤ d) (d9 : d ≤ 9007199254740992) :
    Calls Try.prog 24 #[.int .i64 a, .int .i64 b, .int .i64 d] w fun e w' => e = .returned (.bool (decide (d < max a b - min a b))) ∧ w' = w := by
  have ea := u64w a a0 a9
  have eb := u64w b b0 b9
  have ed := u64w d d0 d9
  rcases Int.le_total a b with h | h
  · have e4 := u64w (b - a) (by omega) (by omega)
    go_enter Try.func24, Try.ntmps24
    go_wp2
    all_goals (go_ret; exact ⟨congrArg (fun z => Ending.returned (.bool z)) (decide_eq_decide.2 (by omega)), rfl⟩)
  · have e4 := u64w (a - b) (by omega) (by omega)
    go_enter Try.func24, Try.ntmps24
    go_wp2
    all_goals (go_ret; exact ⟨congrArg (fun z => Ending.returned (.bool z)) (decide_eq_decide.2 (by omega)), rfl⟩)
def Tl (q : Nat → Bool) (n : Nat) (rD : Nat → Int) (T now : Int) : Bool := decide (lev q n ≠ 0 ∧ 0 ≤ now - T ∧ now - T ≤ rD (lev q n - 1))
set_option maxRecDepth 100000 in
set_option maxHeartbeats 4000000 in
theorem timely_any (g n c : Nat) (rM rP rF rD : Nat → Int) (Ds Ev : Int) (s0 s1 s2 s3 : ByteArray) (n1 n2 n3 n4 n5 : Int) (pa : Option Addr) (pn pc : Nat) (X Y Z T Mi Lo A1 A2 A3 A4 A5 A6 L H C : Int) (now : Int) (w : World) (h : RW w g n c rM rP rF rD) (d0 : 0 ≤ Ds) (d9 : Ds ≤ 9007199254740992) (e0 : 0 ≤ Ev) (e9 : Ev ≤ 9007199254740992)
    (t0 : -9007199254740992 ≤ T) (t9 : T ≤ 9007199254740992) (m0 : -9007199254740992 ≤ now) (m9 : now ≤ 9007199254740992) :
    Calls Try.prog 15 #[.agg #[.slice (some ⟨g, 0, none⟩) n c, .int .i64 Ds, .int .i64 Ev], .agg #[.string s0, .string s1, .string s2, .string s3, .int .i64 n1, .int .i64 n2, .int .i64 n3, .int .i64 n4, .int .i64 n5, .slice pa pn pc, .int .i64 X, .int .i64 Y, .int .i64 Z, .int .i64 T, .int .i64 Mi, .int .i64 Lo, .int .i64 A1, .int .i64 A2, .int .i64 A3, .int .i64 A4, .int .i64 A5, .int .i64 A6, .int .i64 L, .int .i64 H, .int .i64 C], .int .i64 now] w fun e W' => e = .returned (.bool (Tl (mq rM rP rF pn Mi L C) n rD T now)) ∧ Below w.heap.size w W' := by
  obtain ⟨W3, hW3⟩ : ∃ W3, W3 = (w.alloc (.cells #[.slice (some ⟨g, 0, none⟩) n c, .int .i64 Ds, .int .i64 Ev] 27)).alloc (.cells #[.string s0, .string s1, .string s2, .string s3, .int .i64 n1, .int .i64 n2, .int .i64 n3, .int .i64 n4, .int .i64 n5, .slice pa pn pc, .int .i64 X, .int .i64 Y, .int .i64 Z, .int .i64 T, .int .i64 Mi, .int .i64 Lo, .int .i64 A1, .int .i64 A2, .int .i64 A3, .int .i64 A4, .int .i64 A5, .int .i64 A6, .int .i64 L, .int .i64 H, .int .i64 C] 45) := ⟨_, rfl⟩
  have p0 : W3.heap[w.heap.size]? = some (.cells #[.slice (some ⟨g, 0, none⟩) n c, .int .i64 Ds, .int .i64 Ev] 27 (0, 0)) := by rw [hW3]; exact Geo.blk_alloc (Geo.blk_new _ _) _
  have p1 : W3.heap[w.heap.size + 1]? = some (.cells #[.string s0, .string s1, .string s2, .string s3, .int .i64 n1, .int .i64 n2, .int .i64 n3, .int .i64 n4, .int .i64 n5, .slice pa pn pc, .int .i64 X, .int .i64 Y, .int .i64 Z, .int .i64 T, .int .i64 Mi, .int .i64 Lo, .int .i64 A1, .int .i64 A2, .int .i64 A3, .int .i64 A4, .int .i64 A5, .int .i64 A6, .int .i64 L, .int .i64 H, .int .i64 C] 45 (0, 0)) := by rw [hW3]; exact Geo.blk_new1 _ _ _
  have z3 : W3.heap.size = w.heap.size + 1 + 1 := by rw [hW3]; simp
  have B3 : Below w.heap.size w W3 := by rw [hW3]; exact ((Below.refl w.heap.size w).alloc (Nat.le_refl _) _).alloc (by simp) _
  have R3 := h.below B3
  have LV := Lib.hid (level_any g n c rM rP rF rD Ds Ev s0 s1 s2 s3 n1 n2 n3 n4 n5 pa pn pc X Y Z T Mi Lo A1 A2 A3 A4 A5 A6 L H C W3 R3 d0 d9 e0 e9)
  have p1x := p1
  rw [hW3] at p1x
  replace p1x := Lib.hid p1x
  have hle := lev_le (mq rM rP rF pn Mi L C) n
  have hn8 := h.n8
  have hnc := h.le
  replace hW3 := Lib.hid hW3
  replace p0 := Lib.hid p0
  replace p1 := Lib.hid p1
  clear h
  unfold Tl
  generalize lev (mq rM rP rF pn Mi L C) n = v at *
  go_enter Try.func15, Try.ntmps15
  go_wp2_with (first | (refine wpList_load_row rfl 45 (.tmp 4) rfl (w.heap.size + 1) (by simp [Act.eval]) 45 #[.string s0, .string s1, .string s2, .string s3, .int .i64 n1, .int .i64 n2, .int .i64 n3, .int .i64 n4, .int .i64 n5, .slice pa pn pc, .int .i64 X, .int .i64 Y, .int .i64 Z, .int .i64 T, .int .i64 Mi, .int .i64 Lo, .int .i64 A1, .int .i64 A2, .int .i64 A3, .int .i64 A4, .int .i64 A5, .int .i64 A6, .int .i64 L, .int .i64 H, .int .i64 C] (0, 0) _ p1x.out rfl rfl rfl ?_) | (go_at_call 11; rw [← hW3.out]; refine LV.out.mono ?_; rintro e w1 ⟨rfl, hb1⟩))
  have B1 := Lib.hid (B3.trans (hb1.mono (by omega)))
  replace p0 := Lib.hid ((hb1.block _ (by omega)).trans p0.out)
  replace p1 := Lib.hid ((hb1.block _ (by omega)).trans p1.out)
  have R1 := Lib.hid (R3.below hb1)
  clear hb1 LV R3 B3 z3 hW3 p1x
  have q0 := Lib.hid fun w' (hC : Below w1.heap.size w1 w') => (tri (Geo.blk_b hC p0.out)).1
  have q1 := Lib.hid fun w' (hC : Below w1.heap.size w1 w') => show w'.cell? ⟨w.heap.size + 1, 13, none⟩ = some (.int .i64 T) from cell_of_row w' (w.heap.size + 1) 13 _ _ _ (Geo.blk_b hC p1.out)
  rcases v with _ | u
  · have hz : ((0 : Nat) : Int) = 0 := rfl
    rw [hz]
    go_wp2_with fail
    go_quiet (fail)
    go_wp2
    go_ret
    exact ⟨congrArg (fun z => Ending.returned (.bool z)) (decide_eq_false (fun h => h.1 rfl)).symm, Buf.below_drewN B1.out _⟩
  · have q2 := Lib.hid fun w' (hC : Below w1.heap.size w1 w') => (R1.out.below hC).at3 u (by omega)
    have v3 := R1.out.val u (by omega)
    have huc : u < c := by omega
    have hun : u < n := by omega
    obtain ⟨dk, hdk⟩ : ∃ dk, rD u = dk := ⟨_, rfl⟩
    rw [hdk] at q2 v3
    replace hdk := Lib.hid hdk
    have hz : ((u + 1 : Nat) : Int) = (u : Int) + 1 := rfl
    rw [hz]
    have t1 : decide ((u : Int) + 1 = 0) = false := by simp; omega
    have t2 : ((u : Int) + 1 == 0) = false := by simp; omega
    have t3 : ((u : Int) + 1 != 0) = true := by simp; omega
    have w1' : IntKind.i64.wrap (now - T) = now - T := IntWalk.i64_in _ ⟨by omega, by omega⟩
    have w2' : IntKind.i64.wrap ((u : Int) + 1 - 1) = u := by rw [show (u : Int) + 1 - 1 = u by omega]; exact IntWalk.i64_in _ ⟨by omega, by omega⟩
    have WI := Lib.hid fun w' => (within_any (now - T) 0 dk w').mono fun e w2 h => (⟨h.1, h.2 ▸ Below.refl _ _⟩ : e = _ ∧ Below w'.heap.size w' w2)
    go_wp2_with fail
    refine Buf.region_calm w1 (by kernel_rfl) (by kernel_rfl) (Below.refl _ _) ?_
    repeat (go_big_quiet_step ((intro hC; first
      | (go_at_call 26; (with_reducible exact Buf.calm hC (WI.out _)))
      | rfl
      | (simp only [q0.out _ hC, Result.andThen_ok]; first | exact ⟨trivial, rfl⟩ | rfl)
      | (simp only [q1.out _ hC, Result.andThen_ok]; first | exact ⟨trivial, rfl⟩ | rfl)
      | (simp only [q2.out _ hC, Result.andThen_ok]; first | exact ⟨trivial, rfl⟩ | rfl))))
    refine wpQuiet_nil ?_
    intro w2 hb2
    go_wp2
    go_ret
    refine ⟨congrArg (fun z => Ending.returned (.bool z)) ?_, Buf.then_ B1.out hb2⟩
    show _ = decide (u + 1 ≠ 0 ∧ 0 ≤ now - T ∧ now - T ≤ rD u)
    rw [hdk.out, Bool.eq_iff_iff]
    simp
end Ru
end Go.Proofs.Yticjmblajloefaa
