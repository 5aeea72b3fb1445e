/- Contracts of package rate: Valid, Time. -/
import Derived.Test.YtfebacopbacopaaDoorDice
import Derived.OwnWalk
namespace Go.Proofs.YtfebacopbacopaaDoor
open Go.RowKit Dice
namespace Rate
theorem within_yes (n lo hi : Int) (w : World) (h1 : lo ≤ n) (h2 : n ≤ hi) :
    Calls Tryd.prog 32 #[.int .i64 n, .int .i64 lo, .int .i64 hi] w fun e w' => e = .returned (.bool true) ∧ ∃ m, w' = w.drewN m := by
  go_enter Tryd.func32, Tryd.ntmps32
  go_wp2
  go_ret
  exact ⟨rfl, 0, rfl⟩
theorem within_no (n lo hi : Int) (w : World) (h : n < lo ∨ hi < n) :
    Calls Tryd.prog 32 #[.int .i64 n, .int .i64 lo, .int .i64 hi] w fun e w' => e = .returned (.bool false) ∧ ∃ m, w' = w.drewN m := by
  by_cases h1 : lo ≤ n
  · have h2 : ¬ n ≤ hi := by omega
    clear h
    go_enter Tryd.func32, Tryd.ntmps32
    go_wp2
    go_ret
    exact ⟨rfl, 0, rfl⟩
  · clear h
    go_enter Tryd.func32, Tryd.ntmps32
    go_wp2
    go_ret
    exact ⟨rfl, 0, rfl⟩
theorem in_yes (n lo hi : Int) (w : World) (h1 : lo ≤ n) (h2 : n ≤ hi) :
    Calls Tryd.prog 34 #[.int .i64 n, .int .i64 lo, .int .i64 hi] w fun e w' => e = .returned (.bool true) ∧ ∃ m, w' = w.drewN m := by
  go_enter Tryd.func34, Tryd.ntmps34
  go_wp2
  go_ret
  exact ⟨rfl, 0, rfl⟩
theorem in_no (n lo hi : Int) (w : World) (h : n < lo ∨ hi < n) :
    Calls Tryd.prog 34 #[.int .i64 n, .int .i64 lo, .int .i64 hi] w fun e w' => e = .returned (.bool false) ∧ ∃ m, w' = w.drewN m := by
  by_cases h1 : lo ≤ n
  · have h2 : ¬ n ≤ hi := by omega
    clear h
    go_enter Tryd.func34, Tryd.ntmps34
    go_wp2
    go_ret
    exact ⟨rfl, 0, rfl⟩
  · clear h
    go_enter Tryd.func34, Tryd.ntmps34
    go_wp2
    go_ret
    exact ⟨rfl, 0, rfl⟩
theorem ret1 {k : IntKind} {a b : Int} (h : a = b) : Ending.returned (.int k a) = .returned (.int k b) := by rw [h]
theorem divisor_any (a b : Nat) (w : World) (ha : (a : Int) ≤ 4611686018427387904) (hb : (b : Int) ≤ 4611686018427387904) :
    Calls Tryd.prog 77 #[.int .i64 a, .int .i64 b] w fun e w' => e = .returned (.int .i64 (Nat.gcd a b : Nat)) ∧ ∃ m, w' = w.drewN m := by
  go_enter Tryd.func77, Tryd.ntmps77
  go_wp2_with fail
  go_loopw [0, 1] (fun u v wr => ∃ x y : Nat, u = .int .i64 x ∧ v = .int .i64 y ∧ Hid (Nat.gcd x y = Nat.gcd a b) ∧ (x : Int) ≤ 4611686018427387904 ∧ (y : Int) ≤ 4611686018427387904 ∧ ∃ m, wr = w.drewN m) (fun _ v _ => (intOf v).toNat)
  case atStart => exact ⟨a, b, rfl, rfl, rfl, ha, hb, 0, rfl⟩
  case round =>
    obtain ⟨x, y, rfl, rfl, hg, hx, hy, m, rfl⟩ := hrel
    by_cases h0 : y = 0
    · subst h0
      have hg' : Hid (x = Nat.gcd a b) := by rw [← hg.out, Nat.gcd_zero_right]; rfl
      go_wp2
      go_ret
      exact ⟨ret1 (by rw [← hg'.out]), _, rfl⟩
    · have hb1 : (((y : Int)) != 0) = true := by rw [bne_iff_ne]; omega
      have hm : x % y < y := Nat.mod_lt _ (by omega)
      have e1 : ((x : Int)) % (y : Int) = ((x % y : Nat) : Int) := by simp
      have hst : Hid (Nat.gcd y (x % y) = Nat.gcd a b) := by rw [← hg.out, Nat.gcd_comm x y]; show _ = _; rw [Nat.gcd_comm y (x % y), ← Nat.gcd_rec]
      go_wp2_with fail
      go_quiet (fail)
      go_wp2
      go_roundw
      case rel => exact ⟨y, x % y, rfl, by simp, hst, hy, by omega, _, World.drewN_drewN _ _ _⟩
      case measure => simp [intOf]; omega
/-- A valid rate. -/
structure RV (n d : Int) : Prop where
  n1 : 1 ≤ n
  n2 : n ≤ 4096
  d1 : 1 ≤ d
  d2 : d ≤ 4096
  co : Nat.gcd n.toNat d.toNat = 1
theorem valid_yes (n d : Int) (h : RV n d) (w : World) :
    Calls Tryd.prog 58 #[.agg #[.int .i64 n, .int .i64 d]] w fun e w' => e = .returned (.bool true) ∧ Below w.heap.size w w' := by
  obtain ⟨n1, n2, d1, d2, co⟩ := h
  have G : Hid (∀ w, Calls Tryd.prog 77 #[.int .i64 n, .int .i64 d] w fun e w' => e = .returned (.int .i64 1) ∧ ∃ m, w' = w.drewN m) := by
    intro w
    have := divisor_any n.toNat d.toNat w (by omega) (by omega)
    rw [co, Int.toNat_of_nonneg (by omega), Int.toNat_of_nonneg (by omega)] at this
    exact this
  clear co
  go_enter Tryd.func58, Tryd.ntmps58
  go_wp2_with (first | (go_at_call 32; refine (within_yes _ _ _ _ (by omega) (by omega)).mono ?_; rintro e w' ⟨rfl, m, rfl⟩) | (go_at_call 77; with_reducible refine (G.out _).mono ?_; rintro e w' ⟨rfl, m, rfl⟩))
  go_ret
  exact ⟨rfl, Buf.below_drewN ((Below.refl _ _).alloc (Nat.le_refl _) _) _⟩
/-- The time of k samples. -/
def el (n d k : Int) : Int := k * (d * 1000000) / n
/-- The greatest index, at most 2^24, whose time is at most x. -/
def lastF (n d x : Int) : Int := min (((x + 1) * n - 1) / (d * 1000000)) 16777216
theorem rv_of (a b : Nat) (a1 : 1 ≤ a) (a2 : a ≤ 4096) (b1 : 1 ≤ b) (b2 : b ≤ 4096) : RV ((a / Nat.gcd a b : Nat) : Int) ((b / Nat.gcd a b : Nat) : Int) := by
  have g0 : 0 < Nat.gcd a b := Nat.gcd_pos_of_pos_left _ (by omega)
  have ga : Nat.gcd a b ≤ a := Nat.gcd_le_left _ (by omega)
  have gb : Nat.gcd a b ≤ b := Nat.gcd_le_right _ (by omega)
  have p1 : 0 < a / Nat.gcd a b := Nat.div_pos ga g0
  have p2 : 0 < b / Nat.gcd a b := Nat.div_pos gb g0
  have q1 := Nat.div_le_self a (Nat.gcd a b)
  have q2 := Nat.div_le_self b (Nat.gcd a b)
  exact ⟨by omega, by omega, by omega, by omega, Nat.gcd_div_gcd_div_gcd_of_pos_left (by omega)⟩
end Rate
end Go.Proofs.YtfebacopbacopaaDoor
