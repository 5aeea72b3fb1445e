/- RTU: texts joined. -/
import Derived.Test.YtldgihlhioeipaaGreatRoot
import Derived.Test.YtldgihlhioeipaaGreatGeoAI
/- Floor and Ceil at any number; the same of the reference. -/
namespace Go.Proofs.YtldgihlhioeipaaGreat
open Go.RowKit
namespace Root
theorem sq_nn (x : Int) : 0 ≤ x * x := by
  by_cases h : 0 ≤ x
  · exact Int.mul_nonneg h h
  · have := Int.mul_nonneg (show 0 ≤ -x by omega) (show 0 ≤ -x by omega); rwa [Int.neg_mul_neg] at this
theorem rt_neg {n : Int} (h : n < 0) (k : Nat) : rt n k = 0 := by
  induction k with
  | zero => rfl
  | succ k ih =>
    show (if (rt n k + bt k) * (rt n k + bt k) ≤ n then rt n k + bt k else rt n k) = 0
    rw [if_neg (by have := sq_nn (rt n k + bt k); omega), ih]
theorem rt_all (n : Int) (n1 : n ≤ 9223372036854775807) (k : Nat) (hk : k ≤ 32) : 0 ≤ rt n k ∧ rt n k ≤ 3037000499 ∧ 0 ≤ rt n k * rt n k ∧ rt n k * rt n k ≤ 9223372036854775807 := by
  by_cases h : n < 0
  · rw [rt_neg h]; exact ⟨by omega, by omega, by omega, by omega⟩
  · obtain ⟨q, e, s, _⟩ := rt_inv n (by omega) n1 k hk
    have r0 : 0 ≤ rt n k := by rw [e]; exact Int.mul_nonneg (by omega) (Int.le_of_lt (Int.pow_pos (by decide)))
    have r1 : rt n k ≤ 3037000500 := sq_le_of r0 (Int.le_trans s (by omega)) (by decide)
    have r2 : rt n k ≠ 3037000500 := fun hh => by rw [hh] at s; omega
    exact ⟨r0, by omega, sq_nn _, by omega⟩
set_option maxHeartbeats 1000000 in
theorem floor_all (n : Int) (w : World) (n1 : n ≤ 9223372036854775807) :
    Calls Tryz.prog 96 #[.int .i64 n] w fun e w' => e = .returned (.int .i64 (rt n 32)) ∧ w' = w := by
  by_cases n0 : n < 0
  · have hr := Lib.hid (rt_neg n0 32)
    rw [hr.out]
    go_enter Tryz.func96, Tryz.ntmps96
    go_wp2
    go_ret
    exact ⟨rfl, rfl⟩
  replace n0 : 0 ≤ n := by omega
  go_enter Tryz.func96, Tryz.ntmps96
  go_wp2
  go_loop [3, 4] (fun u v => ∃ k : Nat, k ≤ 32 ∧ ∃ r b : Int, u = .int .i64 r ∧ v = .int .i64 b ∧ Hid (r = rt n k) ∧ Hid (b = bt k)) (fun _ v => (intOf v).toNat)
  case atStart => exact ⟨0, by omega, 0, _, rfl, rfl, Lib.hid rfl, Lib.hid bt_zero.symm⟩
  case round =>
    obtain ⟨k, hk, r, b, rfl, rfl, hr, hb⟩ := hrel
    by_cases hlt : k < 32
    · have hbk : b = 2 ^ (31 - k) := by rw [hb.out]; exact bt_at k (by omega)
      obtain ⟨q, e, s, _⟩ := rt_inv n n0 (by omega) k hk
      rw [← hr.out] at e s
      have h2 : (2 : Int) ^ (32 - k) = 2 * b := by rw [hbk, show 32 - k = (31 - k) + 1 by omega, Int.pow_succ, Int.mul_comm]
      rw [h2] at e
      have b0 : 1 ≤ b := by rw [hbk]; exact (Ma.pow_bd (31 - k) 31 (by omega)).1
      have b1 : b ≤ 2147483648 := by rw [hbk]; exact (Ma.pow_bd (31 - k) 31 (by omega)).2
      have r0 : 0 ≤ r := by rw [e]; exact Int.mul_nonneg (by omega) (by omega)
      have r1 : r ≤ 3037000500 := sq_le_of r0 (Int.le_trans s (by omega)) (by decide)
      have hor : bits .or .i64 r b = r + b := by
        have := or_add q b (31 - k) hbk (by rw [← e]; omega) (by omega)
        rwa [← e] at this
      have hs : Hid (rt n (k + 1) = if (r + b) * (r + b) ≤ n then r + b else r) := by rw [hr.out, hb.out]; exact Lib.hid rfl
      have hb' : Hid (b / 2 = bt (k + 1)) := by rw [hb.out]; exact Lib.hid (bt_succ k).symm
      clear e h2 hbk s
      by_cases hc : (r + b) * (r + b) ≤ n
      · have hq : r + b ≤ n / (r + b) := (Int.le_ediv_iff_mul_le (by omega)).2 hc
        have hs' : Hid (r + b = rt n (k + 1)) := Lib.hid (by rw [hs.out, if_pos hc])
        clear hc hs
        go_wp2
        go_round
        case rel => exact ⟨k + 1, by omega, _, _, rfl, rfl, hs', hb'⟩
        case measure => simp [intOf]; omega
      · have hq : n / (r + b) < r + b := (Int.ediv_lt_iff_lt_mul (by omega)).2 (by omega)
        have hs' : Hid (r = rt n (k + 1)) := Lib.hid (by rw [hs.out, if_neg hc])
        clear hc hs
        go_wp2
        go_round
        case rel => exact ⟨k + 1, by omega, _, _, rfl, rfl, hs', hb'⟩
        case measure => simp [intOf]; omega
    · obtain rfl : k = 32 := by omega
      obtain rfl : b = 0 := by rw [hb.out]; exact bt_end
      go_wp2
      go_ret
      exact ⟨ret1 hr.out, rfl⟩
set_option maxHeartbeats 1000000 in
theorem rfloor_all (n : Int) (w : World) (n1 : n ≤ 9223372036854775807) :
    Calls Tryz.prog 104 #[.int .i64 n] w fun e w' => e = .returned (.int .i64 (rt n 32)) ∧ w' = w := by
  go_enter Tryz.func104, Tryz.ntmps104
  go_wp2
  go_loop [3, 4] (fun u v => ∃ k : Nat, k ≤ 32 ∧ ∃ r b : Int, u = .int .i64 r ∧ v = .int .i64 b ∧ Hid (r = rt n k) ∧ Hid (b = bt k)) (fun _ v => (intOf v).toNat)
  case atStart => exact ⟨0, by omega, 0, _, rfl, rfl, Lib.hid rfl, Lib.hid bt_zero.symm⟩
  case round =>
    obtain ⟨k, hk, r, b, rfl, rfl, hr, hb⟩ := hrel
    by_cases hlt : k < 32
    · have hbk : b = 2 ^ (31 - k) := by rw [hb.out]; exact bt_at k (by omega)
      obtain ⟨r0, r1, _, _⟩ := rt_all n n1 k hk
      rw [← hr.out] at r0 r1
      have b0 : 1 ≤ b := by rw [hbk]; exact (Ma.pow_bd (31 - k) 31 (by omega)).1
      have b1 : b ≤ 2147483648 := by rw [hbk]; exact (Ma.pow_bd (31 - k) 31 (by omega)).2
      have hs : Hid (rt n (k + 1) = if (r + b) * (r + b) ≤ n then r + b else r) := by rw [hr.out, hb.out]; exact Lib.hid rfl
      have hb' : Hid (b / 2 = bt (k + 1)) := by rw [hb.out]; exact Lib.hid (bt_succ k).symm
      have q0 := sq_nn (r + b)
      clear hbk
      by_cases hc : (r + b) * (r + b) ≤ n
      · have hm : r + b ≤ 3037000499 := by
          have h1 : r + b ≤ 3037000500 := sq_le_of (by omega) (Int.le_trans hc (by omega)) (by decide)
          have h2 : r + b ≠ 3037000500 := fun hh => by rw [hh] at hc; omega
          omega
        have hs' : Hid (r + b = rt n (k + 1)) := Lib.hid (by rw [hs.out, if_pos hc])
        clear hs
        have d1 : decide (r + b ≤ 3037000499) = true := decide_eq_true hm
        have d2 : decide ((r + b) * (r + b) ≤ n) = true := decide_eq_true hc
        have q1 : (r + b) * (r + b) ≤ 9223372036854775807 := by omega
        go_wp2
        go_round
        case rel => exact ⟨k + 1, by omega, _, _, rfl, rfl, hs', hb'⟩
        case measure => simp [intOf]; omega
      · have hs' : Hid (r = rt n (k + 1)) := Lib.hid (by rw [hs.out, if_neg hc])
        clear hs
        by_cases hm : r + b ≤ 3037000499
        · have q1 : (r + b) * (r + b) ≤ 3037000499 * 3037000499 := Int.mul_le_mul hm hm (by omega) (by decide)
          have d1 : decide (r + b ≤ 3037000499) = true := decide_eq_true hm
          have d2 : decide ((r + b) * (r + b) ≤ n) = false := decide_eq_false hc
          go_wp2
          go_round
          case rel => exact ⟨k + 1, by omega, _, _, rfl, rfl, hs', hb'⟩
          case measure => simp [intOf]; omega
        · have d1 : decide (r + b ≤ 3037000499) = false := decide_eq_false hm
          clear hc q0
          go_wp2
          go_round
          case rel => exact ⟨k + 1, by omega, _, _, rfl, rfl, hs', hb'⟩
          case measure => simp [intOf]; omega
    · obtain rfl : k = 32 := by omega
      obtain rfl : b = 0 := by rw [hb.out]; exact bt_end
      go_wp2
      go_ret
      exact ⟨ret1 hr.out, rfl⟩
theorem ceil_all (n : Int) (w : World) (n1 : n ≤ 9223372036854775807) :
    Calls Tryz.prog 93 #[.int .i64 n] w fun e w' => e = .returned (.int .i64 (ce n)) ∧ w' = w := by
  obtain ⟨r0, r1, q0, q1⟩ := rt_all n n1 32 (by omega)
  have F := Lib.hid fun w => floor_all n w n1
  have hc : Hid (ce n = if rt n 32 * rt n 32 < n then rt n 32 + 1 else rt n 32) := Lib.hid rfl
  have hz : Hid (n < 0 → rt n 32 = 0) := Lib.hid fun h => rt_neg h 32
  generalize rt n 32 = r at *
  by_cases hq : r * r < n
  · have he : Hid (ce n = r + 1) := Lib.hid (by rw [hc.out, if_pos hq])
    rw [he.out]
    have hn : 0 < n := by omega
    clear he hc
    go_enter Tryz.func93, Tryz.ntmps93
    go_wp2_with (go_at_call 96; with_reducible refine (F.out _).mono ?_; rintro e w1 ⟨rfl, rfl⟩)
    go_ret
    exact ⟨rfl, rfl⟩
  · have he : Hid (ce n = r) := Lib.hid (by rw [hc.out, if_neg hq])
    rw [he.out]
    have hq' : n ≤ r * r := by omega
    clear he hc hq
    by_cases hn : 0 < n
    · go_enter Tryz.func93, Tryz.ntmps93
      go_wp2_with (go_at_call 96; with_reducible refine (F.out _).mono ?_; rintro e w1 ⟨rfl, rfl⟩)
      go_ret
      exact ⟨rfl, rfl⟩
    · have hn' : n ≤ 0 := by omega
      clear hn hq'
      go_enter Tryz.func93, Tryz.ntmps93
      go_wp2_with (go_at_call 96; with_reducible refine (F.out _).mono ?_; rintro e w1 ⟨rfl, rfl⟩)
      go_ret
      exact ⟨rfl, rfl⟩
theorem rceil_all (n : Int) (w : World) (n1 : n ≤ 9223372036854775807) :
    Calls Tryz.prog 101 #[.int .i64 n] w fun e w' => e = .returned (.int .i64 (ce n)) ∧ w' = w := by
  obtain ⟨r0, r1, q0, q1⟩ := rt_all n n1 32 (by omega)
  have F := Lib.hid fun w => rfloor_all n w n1
  have hc : Hid (ce n = if rt n 32 * rt n 32 < n then rt n 32 + 1 else rt n 32) := Lib.hid rfl
  generalize rt n 32 = r at *
  by_cases hq : r * r < n
  · have he : Hid (ce n = r + 1) := Lib.hid (by rw [hc.out, if_pos hq])
    rw [he.out]
    clear he hc
    go_enter Tryz.func101, Tryz.ntmps101
    go_wp2_with (go_at_call 104; with_reducible refine (F.out _).mono ?_; rintro e w1 ⟨rfl, rfl⟩)
    go_ret
    exact ⟨rfl, rfl⟩
  · have he : Hid (ce n = r) := Lib.hid (by rw [hc.out, if_neg hq])
    rw [he.out]
    have hq' : n ≤ r * r := by omega
    clear he hc hq
    go_enter Tryz.func101, Tryz.ntmps101
    go_wp2_with (go_at_call 104; with_reducible refine (F.out _).mono ?_; rintro e w1 ⟨rfl, rfl⟩)
    go_ret
    exact ⟨rfl, rfl⟩
end Root
end Go.Proofs.YtldgihlhioeipaaGreat

/- The order of positions (what small seats can fill). -/
namespace Go.Proofs.YtldgihlhioeipaaGreat
open Go.RowKit
namespace Geo
def cmpI (x y : Int) : Int := if x < y then -1 else if y < x then 1 else 0
theorem cmpI_cases (x y : Int) : (x < y ∧ cmpI x y = -1) ∨ (y < x ∧ cmpI x y = 1) ∨ (x = y ∧ cmpI x y = 0) := by
  unfold cmpI
  by_cases h : x < y
  · exact .inl ⟨h, if_pos h⟩
  · by_cases h2 : y < x
    · exact .inr (.inl ⟨h2, by rw [if_neg h, if_pos h2]⟩)
    · exact .inr (.inr ⟨by omega, by rw [if_neg h, if_neg h2]⟩)
theorem cmpI_bd (x y : Int) : -1 ≤ cmpI x y ∧ cmpI x y ≤ 1 := by rcases cmpI_cases x y with ⟨_, h⟩ | ⟨_, h⟩ | ⟨_, h⟩ <;> omega
theorem nan_any (x : Int) (w : World) : Calls Tryz.prog 113 #[.int .i64 x] w fun e w' => e = .returned (.bool false) ∧ w' = w := by
  go_enter Tryz.func113, Tryz.ntmps113
  go_wp2
  go_ret
  exact ⟨rfl, rfl⟩
theorem cmpc_any (x y : Int) (w : World) : Calls Tryz.prog 112 #[.int .i64 x, .int .i64 y] w fun e w' => e = .returned (.int .i64 (cmpI x y)) ∧ w' = w := by
  have N := Lib.hid fun x w => nan_any x w
  rcases cmpI_cases x y with ⟨h, he⟩ | ⟨h, he⟩ | ⟨rfl, he⟩
  all_goals
    rw [he]
    clear he
    go_enter Tryz.func112, Tryz.ntmps112
    go_wp2_with (go_at_call 113; with_reducible refine (N.out _ _).mono ?_; rintro e w1 ⟨rfl, rfl⟩)
    go_ret
    exact ⟨rfl, rfl⟩
def cmp3 (x y z : Int) : Int := if x = 0 then (if y = 0 then z else y) else x
def rest3 (x y z : Int) (k : Nat) : Int := match k with | 0 => cmp3 x y z | 1 => if y = 0 then z else y | 2 => z | _ => 0
set_option maxHeartbeats 1000000 in
theorem scmp3_any (p q : Nat) (a b c d e f : Int) (w : World) (hp : w.heap[p]? = some (.cells #[.int .i64 a, .int .i64 b, .int .i64 c] 89 (0, 0))) (hq : w.heap[q]? = some (.cells #[.int .i64 d, .int .i64 e, .int .i64 f] 89 (0, 0))) :
    Calls Tryz.prog 100 #[.slice (some ⟨p, 0, none⟩) 3 3, .slice (some ⟨q, 0, none⟩) 3 3] w fun r w' => r = .returned (.int .i64 (cmp3 (cmpI a d) (cmpI b e) (cmpI c f))) ∧ w' = w := by
  have S1 := Lib.hid fun w => cmpc_any a d w
  have S2 := Lib.hid fun w => cmpc_any b e w
  have S3 := Lib.hid fun w => cmpc_any c f w
  obtain ⟨k1, k2, k3, _, _, _⟩ := cells3 hp
  obtain ⟨l1, l2, l3, _, _, _⟩ := cells3 hq
  clear hp hq
  generalize cmpI a d = x at *
  generalize cmpI b e = y at *
  generalize cmpI c f = z at *
  go_enter Tryz.func100, Tryz.ntmps100
  go_wp2
  go_loop [11] (fun i => ∃ k : Nat, k ≤ 3 ∧ i = .int .i64 k ∧ Hid (rest3 x y z k = cmp3 x y z)) (fun i => (3 - intOf i).toNat)
  case atStart => exact ⟨0, by omega, rfl, Lib.hid rfl⟩
  case round =>
    obtain ⟨k, hk, rfl, hr⟩ := hrel
    by_cases h0 : k = 0
    · subst h0
      by_cases hx : x = 0
      · subst hx
        go_wp2_with (go_at_call 112; with_reducible refine (S1.out _).mono ?_; rintro e w1 ⟨rfl, rfl⟩)
        go_round
        case rel => exact ⟨1, by omega, rfl, Lib.hid rfl⟩
        case measure => simp [intOf]
      · have hx' : (x == 0) = false := by rw [beq_eq_false_iff_ne]; exact hx
        have he := Lib.hid (show x = cmp3 x y z from by unfold cmp3; rw [if_neg hx])
        go_wp2_with (go_at_call 112; with_reducible refine (S1.out _).mono ?_; rintro e w1 ⟨rfl, rfl⟩)
        go_ret
        exact ⟨Root.ret1 he.out, rfl⟩
    by_cases h1 : k = 1
    · subst h1
      by_cases hy : y = 0
      · subst hy
        replace hr := Lib.hid (show rest3 x 0 z 2 = cmp3 x 0 z from hr.out)
        go_wp2_with (go_at_call 112; with_reducible refine (S2.out _).mono ?_; rintro e w1 ⟨rfl, rfl⟩)
        go_round
        case rel => exact ⟨2, by omega, rfl, hr⟩
        case measure => simp [intOf]
      · have hy' : (y == 0) = false := by rw [beq_eq_false_iff_ne]; exact hy
        have he := Lib.hid (show y = cmp3 x y z from by rw [← hr.out]; unfold rest3; simp only [if_neg hy])
        go_wp2_with (go_at_call 112; with_reducible refine (S2.out _).mono ?_; rintro e w1 ⟨rfl, rfl⟩)
        go_ret
        exact ⟨Root.ret1 he.out, rfl⟩
    by_cases h2 : k = 2
    · subst h2
      by_cases hz : z = 0
      · subst hz
        replace hr := Lib.hid (show rest3 x y 0 3 = cmp3 x y 0 from hr.out)
        go_wp2_with (go_at_call 112; with_reducible refine (S3.out _).mono ?_; rintro e w1 ⟨rfl, rfl⟩)
        go_round
        case rel => exact ⟨3, by omega, rfl, hr⟩
        case measure => simp [intOf]
      · have hz' : (z == 0) = false := by rw [beq_eq_false_iff_ne]; exact hz
        have he := Lib.hid (show z = cmp3 x y z from hr.out)
        go_wp2_with (go_at_call 112; with_reducible refine (S3.out _).mono ?_; rintro e w1 ⟨rfl, rfl⟩)
        go_ret
        exact ⟨Root.ret1 he.out, rfl⟩
    obtain rfl : k = 3 := by omega
    have he := Lib.hid (show 0 = cmp3 x y z from hr.out)
    go_wp2
    go_ret
    exact ⟨Root.ret1 he.out, rfl⟩
end Geo
end Go.Proofs.YtldgihlhioeipaaGreat

/- The order of any positions. -/
namespace Go.Proofs.YtldgihlhioeipaaGreat
open Go.RowKit
namespace Geo
set_option maxHeartbeats 4000000 in
set_option maxRecDepth 100000 in
theorem compare_any (a b c d e f : Int) (w : World) :
    Calls Tryz.prog 83 #[.agg #[.int .i64 a, .int .i64 b, .int .i64 c], .agg #[.int .i64 d, .int .i64 e, .int .i64 f]] w fun r w' => r = .returned (.int .i64 (cmp3 (cmpI a d) (cmpI b e) (cmpI c f))) ∧ Below w.heap.size w w' := by
  have S := Lib.hid fun p q w hp hq => scmp3_any p q a b c d e f w hp hq
  have p1 := Lib.hid (blk_alloc (blk_new w (.cells #[.int .i64 a, .int .i64 b, .int .i64 c] 26)) (.cells #[.int .i64 d, .int .i64 e, .int .i64 f] 26))
  have p2 := Lib.hid (blk_new1 w (.cells #[.int .i64 a, .int .i64 b, .int .i64 c] 26) (.cells #[.int .i64 d, .int .i64 e, .int .i64 f] 26))
  have hA : Hid (Below w.heap.size w ((w.alloc (.cells #[.int .i64 a, .int .i64 b, .int .i64 c] 26)).alloc (.cells #[.int .i64 d, .int .i64 e, .int .i64 f] 26))) := Lib.hid (Buf.then_ (new_block _) (new_block _))
  go_enter Tryz.func83, Tryz.ntmps83
  go_wp2_with fail
  obtain ⟨w2, hw2⟩ : ∃ w2, w2 = (w.alloc (.cells #[.int .i64 a, .int .i64 b, .int .i64 c] 26)).alloc (.cells #[.int .i64 d, .int .i64 e, .int .i64 f] 26) := ⟨_, rfl⟩
  rw [← hw2] at p1 p2 hA ⊢
  clear hw2
  obtain ⟨a1, a2, a3, _, _, _⟩ := cells3 p1.out
  obtain ⟨q1, q2, q3, _, _, _⟩ := cells3 p2.out
  have hlt : Hid (w.heap.size + 1 < w2.heap.size) := Lib.hid (Array.getElem?_eq_some_iff.1 p2.out).1
  have zs := Array.getElem?_eq_some_iff.1 p2.out
  have zs := zs.1
  go_cut [5, 6] (fun s5 s6 wx => ∃ p q : Nat, s5 = .pointer (some ⟨p, 0, none⟩) ∧ s6 = .pointer (some ⟨q, 0, none⟩) ∧ Hid (wx.heap[p]? = some (.cells #[.int .i64 a, .int .i64 b, .int .i64 c] 89 (0, 0))) ∧ Hid (wx.heap[q]? = some (.cells #[.int .i64 d, .int .i64 e, .int .i64 f] 89 (0, 0))) ∧ Hid (Below w.heap.size w wx))
  case first =>
    go_region_held3 (fun w' => w'.cell? ⟨w.heap.size, 0, none⟩ = some (.int .i64 a) ∧ w'.cell? ⟨w.heap.size, 1, none⟩ = some (.int .i64 b) ∧ w'.cell? ⟨w.heap.size, 2, none⟩ = some (.int .i64 c) ∧ w'.cell? ⟨w.heap.size + 1, 0, none⟩ = some (.int .i64 d) ∧ w'.cell? ⟨w.heap.size + 1, 1, none⟩ = some (.int .i64 e) ∧ w'.cell? ⟨w.heap.size + 1, 2, none⟩ = some (.int .i64 f))
      (refine ⟨?_, ?_, ?_, ?_, ?_, ?_⟩ <;> (repeat (with_reducible first | exact a1 | exact a2 | exact a3 | exact q1 | exact q2 | exact q3 | refine keepc hbB ?_ | refine keepc hbA ?_ | refine keepc (new_block _) ?_ | refine keepc ((Below.refl _ _).drew) ?_ | (refine (World.cell?_setCell_far _ _ _ _ ?_).trans ?_; · (simp only [ne_eq]; omega)))))
      ((first
        | (go_at_call 64; (with_reducible refine (coords_any a b c _).mono ?_); rintro r wA ⟨rfl, hbA⟩; have zA := hbA.size; (try simp at zA); (first | (with_reducible have m1 : Hid (wA.heap[w2.heap.size]? = some (.cells #[.int .i64 0, .int .i64 0, .int .i64 0] 89 (0, 0))) := Lib.hid (blk_b hbA (blk_drew (blk_new w2 (.cells #[.int .i64 0, .int .i64 0, .int .i64 0] 89))))) | (with_reducible have m1 : Hid (wA.heap[w2.heap.size]? = some (.cells #[.int .i64 0, .int .i64 0, .int .i64 0] 89 (0, 0))) := Lib.hid (blk_b hbA (blk_drew (blk_alloc (blk_new w2 (.cells #[.int .i64 0, .int .i64 0, .int .i64 0] 89)) (.cells #[.int .i64 0, .int .i64 0, .int .i64 0] 89))))) | skip); (first | (with_reducible have m2 : Hid (wA.heap[w2.heap.size + 1]? = some (.cells #[.int .i64 0, .int .i64 0, .int .i64 0] 89 (0, 0))) := Lib.hid (blk_b hbA (blk_drew (blk_new1 w2 (.cells #[.int .i64 0, .int .i64 0, .int .i64 0] 89) (.cells #[.int .i64 0, .int .i64 0, .int .i64 0] 89))))) | skip))
        | (go_at_call 64; (with_reducible refine (coords_any d e f _).mono ?_); rintro r wB ⟨rfl, hbB⟩; have zB := hbB.size; (try simp at zB); (first | (with_reducible replace m1 : Hid (wB.heap[w2.heap.size]? = some (.cells #[.int .i64 0, .int .i64 0, .int .i64 0] 89 (0, 0))) := Lib.hid (blk_b hbB m1.out)) | (with_reducible replace m1 : Hid (wB.heap[w2.heap.size]? = some (.cells #[.int .i64 0, .int .i64 0, .int .i64 0] 89 (0, 0))) := Lib.hid (blk_b hbB (blk_alloc m1.out (.cells #[.int .i64 0, .int .i64 0, .int .i64 0] 89)))) | (with_reducible replace m1 : Hid (wB.heap[w2.heap.size]? = some (.cells #[.int .i64 0, .int .i64 0, .int .i64 0] 89 (0, 0))) := Lib.hid (blk_b hbB (blk_alloc (blk_alloc m1.out (.cells #[.int .i64 0, .int .i64 0, .int .i64 0] 89)) (.cells #[.int .i64 0, .int .i64 0, .int .i64 0] 89)))) | skip); (first | (with_reducible replace m2 : Hid (wB.heap[w2.heap.size + 1]? = some (.cells #[.int .i64 0, .int .i64 0, .int .i64 0] 89 (0, 0))) := Lib.hid (blk_b hbB m2.out)) | (with_reducible replace m2 : Hid (wB.heap[w2.heap.size + 1]? = some (.cells #[.int .i64 0, .int .i64 0, .int .i64 0] 89 (0, 0))) := Lib.hid (blk_b hbB (blk_alloc m2.out (.cells #[.int .i64 0, .int .i64 0, .int .i64 0] 89)))) | skip); (first | (with_reducible have m3 : Hid (wB.heap[wA.heap.size]? = some (.cells #[.int .i64 0, .int .i64 0, .int .i64 0] 89 (0, 0))) := Lib.hid (blk_b hbB (blk_new wA (.cells #[.int .i64 0, .int .i64 0, .int .i64 0] 89)))) | (with_reducible have m3 : Hid (wB.heap[wA.heap.size]? = some (.cells #[.int .i64 0, .int .i64 0, .int .i64 0] 89 (0, 0))) := Lib.hid (blk_b hbB (blk_alloc (blk_new wA (.cells #[.int .i64 0, .int .i64 0, .int .i64 0] 89)) (.cells #[.int .i64 0, .int .i64 0, .int .i64 0] 89)))) | skip); (first | (with_reducible have m4 : Hid (wB.heap[wA.heap.size + 1]? = some (.cells #[.int .i64 0, .int .i64 0, .int .i64 0] 89 (0, 0))) := Lib.hid (blk_b hbB (blk_new1 wA (.cells #[.int .i64 0, .int .i64 0, .int .i64 0] 89) (.cells #[.int .i64 0, .int .i64 0, .int .i64 0] 89)))) | skip); (first | (have n1 := cells3 m1.out; obtain ⟨_, _, _, _, _, _⟩ := n1; have y1 := (Array.getElem?_eq_some_iff.1 m1.out).1) | skip); (first | (have n2 := cells3 m2.out; obtain ⟨_, _, _, _, _, _⟩ := n2; have y2 := (Array.getElem?_eq_some_iff.1 m2.out).1) | skip); (first | (have n3 := cells3 m3.out; obtain ⟨_, _, _, _, _, _⟩ := n3; have y3 := (Array.getElem?_eq_some_iff.1 m3.out).1) | skip); (first | (have n4 := cells3 m4.out; obtain ⟨_, _, _, _, _, _⟩ := n4; have y4 := (Array.getElem?_eq_some_iff.1 m4.out).1) | skip))))
    all_goals go_wp2_with fail
    all_goals go_meet
    all_goals
      have hlt' := hlt.out
      refine ⟨_, _, rfl, rfl, Lib.hid ?_, Lib.hid ?_, Lib.hid ?_⟩
      · (repeat (with_reducible first | exact blk_new _ _ | exact blk_new1 _ _ _ | (apply blk_newk; simp [World.setCell]; done) | apply blk_alloc | apply st3 (u := .int .i64 0) (v := .int .i64 0) (r := .int .i64 0) | (apply st3_o; · omega) | (apply m1.out; done) | (apply m2.out; done) | (apply m3.out; done) | (apply m4.out; done)))
      · (repeat (with_reducible first | exact blk_new _ _ | exact blk_new1 _ _ _ | (apply blk_newk; simp [World.setCell]; done) | apply blk_alloc | apply st3 (u := .int .i64 0) (v := .int .i64 0) (r := .int .i64 0) | (apply st3_o; · omega) | (apply m1.out; done) | (apply m2.out; done) | (apply m3.out; done) | (apply m4.out; done)))
      · (repeat (with_reducible first | apply hA.out | apply bl_alloc | (apply st3_b; · omega) | apply Buf.then_ (k := hbB) | apply Buf.then_ (k := hbA) | apply Below.drew))
  case rest =>
    obtain ⟨p, q, rfl, rfl, gp, gq, hW⟩ := hcut
    clear hA a1 a2 a3 q1 q2 q3 p1 p2 hlt zs
    replace S := Lib.hid (fun n : Nat => S.out p q (wc.drewN n) (blk_b (Buf.below_drewN (Below.refl wc.heap.size wc) n) gp.out) (blk_b (Buf.below_drewN (Below.refl wc.heap.size wc) n) gq.out))
    clear gp gq
    go_wp2_with fail
    go_quiet ((go_at_call 100; first | (with_reducible exact Calls.quiet_of_same (S.out _)) | (trace_state; fail)))
    go_wp2
    go_ret
    exact ⟨rfl, Buf.below_drewN hW.out _⟩
end Geo
end Go.Proofs.YtldgihlhioeipaaGreat
