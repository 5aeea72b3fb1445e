/- The order of positions (what small seats can fill). -/
import Derived.Test.YtklgnbimfobgkaaGeoI
import Derived.Test.YtklgnbimfobgkaaRoot
namespace Go.Proofs.Ytklgnbimfobgkaa
open Go.RowKit
namespace Geo
def cmpI (x y : Int) : Int := if x < y then -1 else if y < x then 1 else 0
theorem cmpI_cases (x y : Int) : (x < y ∧ cmpI x y = -1) ∨ (y < x ∧ cmpI x y = 1) ∨ (x = y ∧ cmpI x y = 0) := by
  unfold cmpI
  by_cases h : x < y
  · exact .inl ⟨h, if_pos h⟩
  · by_cases h2 : y < x
    · exact .inr (.inl ⟨h2, by rw [if_neg h, if_pos h2]⟩)
    · exact .inr (.inr ⟨by omega, by rw [if_neg h, if_neg h2]⟩)
theorem cmpI_bd (x y : Int) : -1 ≤ cmpI x y ∧ cmpI x y ≤ 1 := by rcases cmpI_cases x y with ⟨_, h⟩ | ⟨_, h⟩ | ⟨_, h⟩ <;> omega
theorem nan_any (x : Int) (w : World) : Calls Try.prog 61 #[.int .i64 x] w fun e w' => e = .returned (.bool false) ∧ w' = w := by
  go_enter Try.func61, Try.ntmps61
  go_wp2
  go_ret
  exact ⟨rfl, rfl⟩
theorem cmpc_any (x y : Int) (w : World) : Calls Try.prog 60 #[.int .i64 x, .int .i64 y] w fun e w' => e = .returned (.int .i64 (cmpI x y)) ∧ w' = w := by
  have N := Lib.hid fun x w => nan_any x w
  rcases cmpI_cases x y with ⟨h, he⟩ | ⟨h, he⟩ | ⟨rfl, he⟩
  all_goals
    rw [he]
    clear he
    go_enter Try.func60, Try.ntmps60
    go_wp2_with (go_at_call 61; with_reducible refine (N.out _ _).mono ?_; rintro e w1 ⟨rfl, rfl⟩)
    go_ret
    exact ⟨rfl, rfl⟩
def cmp3 (x y z : Int) : Int := if x = 0 then (if y = 0 then z else y) else x
def rest3 (x y z : Int) (k : Nat) : Int := match k with | 0 => cmp3 x y z | 1 => if y = 0 then z else y | 2 => z | _ => 0
set_option maxHeartbeats 1000000 in
theorem scmp3_any (p q : Nat) (a b c d e f : Int) (w : World) (hp : w.heap[p]? = some (.cells #[.int .i64 a, .int .i64 b, .int .i64 c] 55 (0, 0))) (hq : w.heap[q]? = some (.cells #[.int .i64 d, .int .i64 e, .int .i64 f] 55 (0, 0))) :
    Calls Try.prog 57 #[.slice (some ⟨p, 0, none⟩) 3 3, .slice (some ⟨q, 0, none⟩) 3 3] w fun r w' => r = .returned (.int .i64 (cmp3 (cmpI a d) (cmpI b e) (cmpI c f))) ∧ w' = w := by
  have S1 := Lib.hid fun w => cmpc_any a d w
  have S2 := Lib.hid fun w => cmpc_any b e w
  have S3 := Lib.hid fun w => cmpc_any c f w
  obtain ⟨k1, k2, k3, _, _, _⟩ := cells3 hp
  obtain ⟨l1, l2, l3, _, _, _⟩ := cells3 hq
  clear hp hq
  generalize cmpI a d = x at *
  generalize cmpI b e = y at *
  generalize cmpI c f = z at *
  go_enter Try.func57, Try.ntmps57
  go_wp2
  go_loop [11] (fun i => ∃ k : Nat, k ≤ 3 ∧ i = .int .i64 k ∧ Hid (rest3 x y z k = cmp3 x y z)) (fun i => (3 - intOf i).toNat)
  case atStart => exact ⟨0, by omega, rfl, Lib.hid rfl⟩
  case round =>
    obtain ⟨k, hk, rfl, hr⟩ := hrel
    by_cases h0 : k = 0
    · subst h0
      by_cases hx : x = 0
      · subst hx
        go_wp2_with (go_at_call 60; with_reducible refine (S1.out _).mono ?_; rintro e w1 ⟨rfl, rfl⟩)
        go_round
        case rel => exact ⟨1, by omega, rfl, Lib.hid rfl⟩
        case measure => simp [intOf]
      · have hx' : (x == 0) = false := by rw [beq_eq_false_iff_ne]; exact hx
        have he := Lib.hid (show x = cmp3 x y z from by unfold cmp3; rw [if_neg hx])
        go_wp2_with (go_at_call 60; with_reducible refine (S1.out _).mono ?_; rintro e w1 ⟨rfl, rfl⟩)
        go_ret
        exact ⟨Root.ret1 he.out, rfl⟩
    by_cases h1 : k = 1
    · subst h1
      by_cases hy : y = 0
      · subst hy
        replace hr := Lib.hid (show rest3 x 0 z 2 = cmp3 x 0 z from hr.out)
        go_wp2_with (go_at_call 60; with_reducible refine (S2.out _).mono ?_; rintro e w1 ⟨rfl, rfl⟩)
        go_round
        case rel => exact ⟨2, by omega, rfl, hr⟩
        case measure => simp [intOf]
      · have hy' : (y == 0) = false := by rw [beq_eq_false_iff_ne]; exact hy
        have he := Lib.hid (show y = cmp3 x y z from by rw [← hr.out]; unfold rest3; simp only [if_neg hy])
        go_wp2_with (go_at_call 60; with_reducible refine (S2.out _).mono ?_; rintro e w1 ⟨rfl, rfl⟩)
        go_ret
        exact ⟨Root.ret1 he.out, rfl⟩
    by_cases h2 : k = 2
    · subst h2
      by_cases hz : z = 0
      · subst hz
        replace hr := Lib.hid (show rest3 x y 0 3 = cmp3 x y 0 from hr.out)
        go_wp2_with (go_at_call 60; with_reducible refine (S3.out _).mono ?_; rintro e w1 ⟨rfl, rfl⟩)
        go_round
        case rel => exact ⟨3, by omega, rfl, hr⟩
        case measure => simp [intOf]
      · have hz' : (z == 0) = false := by rw [beq_eq_false_iff_ne]; exact hz
        have he := Lib.hid (show z = cmp3 x y z from hr.out)
        go_wp2_with (go_at_call 60; with_reducible refine (S3.out _).mono ?_; rintro e w1 ⟨rfl, rfl⟩)
        go_ret
        exact ⟨Root.ret1 he.out, rfl⟩
    obtain rfl : k = 3 := by omega
    have he := Lib.hid (show 0 = cmp3 x y z from hr.out)
    go_wp2
    go_ret
    exact ⟨Root.ret1 he.out, rfl⟩
end Geo
end Go.Proofs.Ytklgnbimfobgkaa
