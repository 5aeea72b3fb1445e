/- Contracts of package rate: Valid, Time. -/
import Derived.Test.YtgckppkfpccanaaDice
import Derived.OwnWalk
namespace Go.Proofs.Ytgckppkfpccanaa
open Go.RowKit Dice
namespace Rate
theorem within_yes (n lo hi : Int) (w : World) (h1 : lo ≤ n) (h2 : n ≤ hi) :
    Calls Try.prog 30 #[.int .i64 n, .int .i64 lo, .int .i64 hi] w fun e w' => e = .returned (.bool true) ∧ ∃ m, w' = w.drewN m := by
  go_enter Try.func30, Try.ntmps30
  go_wp2
  go_ret
  exact ⟨rfl, 0, rfl⟩
theorem within_no (n lo hi : Int) (w : World) (h : n < lo ∨ hi < n) :
    Calls Try.prog 30 #[.int .i64 n, .int .i64 lo, .int .i64 hi] w fun e w' => e = .returned (.bool false) ∧ ∃ m, w' = w.drewN m := by
  by_cases h1 : lo ≤ n
  · have h2 : ¬ n ≤ hi := by omega
    clear h
    go_enter Try.func30, Try.ntmps30
    go_wp2
    go_ret
    exact ⟨rfl, 0, rfl⟩
  · clear h
    go_enter Try.func30, Try.ntmps30
    go_wp2
    go_ret
    exact ⟨rfl, 0, rfl⟩
theorem in_yes (n lo hi : Int) (w : World) (h1 : lo ≤ n) (h2 : n ≤ hi) :
    Calls Try.prog 32 #[.int .i64 n, .int .i64 lo, .int .i64 hi] w fun e w' => e = .returned (.bool true) ∧ ∃ m, w' = w.drewN m := by
  go_enter Try.func32, Try.ntmps32
  go_wp2
  go_ret
  exact ⟨rfl, 0, rfl⟩
theorem in_no (n lo hi : Int) (w : World) (h : n < lo ∨ hi < n) :
    Calls Try.prog 32 #[.int .i64 n, .int .i64 lo, .int .i64 hi] w fun e w' => e = .returned (.bool false) ∧ ∃ m, w' = w.drewN m := by
  by_cases h1 : lo ≤ n
  · have h2 : ¬ n ≤ hi := by omega
    clear h
    go_enter Try.func32, Try.ntmps32
    go_wp2
    go_ret
    exact ⟨rfl, 0, rfl⟩
  · clear h
    go_enter Try.func32, Try.ntmps32
    go_wp2
    go_ret
    exact ⟨rfl, 0, rfl⟩
theorem ret1 {k : IntKind} {a b : Int} (h : a = b) : Ending.returned (.int k a) = .returned (.int k b) := by rw [h]
theorem divisor_any (a b : Nat) (w : World) (ha : (a : Int) ≤ 4611686018427387904) (hb : (b : Int) ≤ 4611686018427387904) :
    Calls Try.prog 31 #[.int .i64 a, .int .i64 b] w fun e w' => e = .returned (.int .i64 (Nat.gcd a b : Nat)) ∧ ∃ m, w' = w.drewN m := by
  go_enter Try.func31, Try.ntmps31
  go_wp2_with fail
  go_loopw [0, 1] (fun u v wr => ∃ x y : Nat, u = .int .i64 x ∧ v = .int .i64 y ∧ Hid (Nat.gcd x y = Nat.gcd a b) ∧ (x : Int) ≤ 4611686018427387904 ∧ (y : Int) ≤ 4611686018427387904 ∧ ∃ m, wr = w.drewN m) (fun _ v _ => (intOf v).toNat)
  case atStart => exact ⟨a, b, rfl, rfl, rfl, ha, hb, 0, rfl⟩
  case round =>
    obtain ⟨x, y, rfl, rfl, hg, hx, hy, m, rfl⟩ := hrel
    by_cases h0 : y = 0
    · subst h0
      have hg' : Hid (x = Nat.gcd a b) := by rw [← hg.out, Nat.gcd_zero_right]; rfl
      go_wp2
      go_ret
      exact ⟨ret1 (by rw [← hg'.out]), _, rfl⟩
    · have hb1 : (((y : Int)) != 0) = true := by rw [bne_iff_ne]; omega
      have hm : x % y < y := Nat.mod_lt _ (by omega)
      have e1 : ((x : Int)) % (y : Int) = ((x % y : Nat) : Int) := by simp
      have hst : Hid (Nat.gcd y (x % y) = Nat.gcd a b) := by rw [← hg.out, Nat.gcd_comm x y]; show _ = _; rw [Nat.gcd_comm y (x % y), ← Nat.gcd_rec]
      go_wp2_with fail
      go_quiet (fail)
      go_wp2
      go_roundw
      case rel => exact ⟨y, x % y, rfl, by simp, hst, hy, by omega, _, World.drewN_drewN _ _ _⟩
      case measure => simp [intOf]; omega
/-- A valid rate. -/
structure RV (n d : Int) : Prop where
  n1 : 1 ≤ n
  n2 : n ≤ 4096
  d1 : 1 ≤ d
  d2 : d ≤ 4096
  co : Nat.gcd n.toNat d.toNat = 1
theorem valid_yes (n d : Int) (h : RV n d) (w : World) :
    Calls Try.prog 11 #[.agg #[.int .i64 n, .int .i64 d]] w fun e w' => e = .returned (.bool true) ∧ Below w.heap.size w w' := by
  obtain ⟨n1, n2, d1, d2, co⟩ := h
  have G : Hid (∀ w, Calls Try.prog 31 #[.int .i64 n, .int .i64 d] w fun e w' => e = .returned (.int .i64 1) ∧ ∃ m, w' = w.drewN m) := by
    intro w
    have := divisor_any n.toNat d.toNat w (by omega) (by omega)
    rw [co, Int.toNat_of_nonneg (by omega), Int.toNat_of_nonneg (by omega)] at this
    exact this
  clear co
  go_enter Try.func11, Try.ntmps11
  go_wp2_with (first | (go_at_call 30; refine (within_yes _ _ _ _ (by omega) (by omega)).mono ?_; rintro e w' ⟨rfl, m, rfl⟩) | (go_at_call 31; with_reducible refine (G.out _).mono ?_; rintro e w' ⟨rfl, m, rfl⟩))
  go_ret
  exact ⟨rfl, Buf.below_drewN ((Below.refl _ _).alloc (Nat.le_refl _) _) _⟩
theorem cycle_any (n d : Int) (w : World) (h1 : 1 ≤ d) (h2 : d ≤ 4096) :
    Calls Try.prog 38 #[.agg #[.int .i64 n, .int .i64 d]] w fun e w' => e = .returned (.int .i64 (d * 1000000)) ∧ Below w.heap.size w w' := by
  go_enter Try.func38, Try.ntmps38
  go_wp2
  go_ret
  exact ⟨rfl, (Below.refl _ _).alloc (Nat.le_refl _) _⟩
/-- The cells of a boxed pair, in every later world. -/
theorem boxed {w : World} {x y : Value} {t : TypeId} {w' : World} (h : Below (w.heap.size + 1) (w.alloc (.cells #[x, y] t)) w') : w'.cell? ⟨w.heap.size, 0, none⟩ = some x ∧ w'.cell? ⟨w.heap.size, 1, none⟩ = some y := by
  constructor
  · rw [h.cell (p := ⟨w.heap.size, 0, none⟩) (by simp)]; exact (World.cell?_alloc_mark w #[x, y] t (0, 0) 0).trans rfl
  · rw [h.cell (p := ⟨w.heap.size, 1, none⟩) (by simp)]; exact (World.cell?_alloc_mark w #[x, y] t (0, 0) 1).trans rfl
theorem boxed_next {w : World} {x y : Value} {t : TypeId} {w1 w2 : World} (h : Below (w.heap.size + 1) (w.alloc (.cells #[x, y] t)) w1) (h2 : Below w1.heap.size w1 w2) : Below (w.heap.size + 1) (w.alloc (.cells #[x, y] t)) w2 :=
  h.trans (h2.mono (by have := h.size; simp at this ⊢; omega))
theorem boxed_out {w : World} {x y : Value} {t : TypeId} {w1 : World} (h : Below (w.heap.size + 1) (w.alloc (.cells #[x, y] t)) w1) : Below w.heap.size w w1 :=
  ((Below.refl _ _).alloc (Nat.le_refl _) _).trans (h.mono (by simp))
/-- The time of k samples. -/
def el (n d k : Int) : Int := k * (d * 1000000) / n
theorem el_bd (n d k : Int) (n1 : 1 ≤ n) (d1 : 1 ≤ d) (d2 : d ≤ 4096) (k0 : 0 ≤ k) (k1 : k ≤ 16777217) : 0 ≤ el n d k ∧ el n d k ≤ 68719480832000000 := by
  have m0 : 0 ≤ k * (d * 1000000) := Int.mul_nonneg k0 (by omega)
  have m1 : k * (d * 1000000) ≤ 16777217 * 4096000000 := Int.mul_le_mul k1 (by omega) (by omega) (by omega)
  refine ⟨Int.ediv_nonneg m0 (by omega), ?_⟩
  have := Int.ediv_le_self n m0
  unfold el; omega
theorem el_le_iff (n d k x : Int) (n1 : 1 ≤ n) : el n d k ≤ x ↔ k * (d * 1000000) < (x + 1) * n := by
  unfold el
  rw [← Int.lt_add_one_iff, Int.ediv_lt_iff_lt_mul (by omega)]
/-- The greatest index, at most 2^24, whose time is at most x. -/
def lastF (n d x : Int) : Int := min (((x + 1) * n - 1) / (d * 1000000)) 16777216
theorem lastF_of (n d x k : Int) (n1 : 1 ≤ n) (d1 : 1 ≤ d) (k1 : k ≤ 16777216) (h1 : el n d k ≤ x) (h2 : k = 16777216 ∨ x < el n d (k + 1)) : k = lastF n d x := by
  rw [el_le_iff n d k x n1] at h1
  have hc : 0 < d * 1000000 := by omega
  have l1 : k ≤ ((x + 1) * n - 1) / (d * 1000000) := (Int.le_ediv_iff_mul_le hc).2 (by omega)
  unfold lastF
  rcases h2 with h2 | h2
  · omega
  · have h3 : ¬ el n d (k + 1) ≤ x := by omega
    rw [el_le_iff n d (k + 1) x n1] at h3
    have l2 : ((x + 1) * n - 1) / (d * 1000000) < k + 1 := (Int.ediv_lt_iff_lt_mul hc).2 (by omega)
    omega
theorem elapsed_any (n d k : Int) (w : World) (n1 : 1 ≤ n) (d1 : 1 ≤ d) (d2 : d ≤ 4096) (k0 : 0 ≤ k) (k1 : k ≤ 16777217) :
    Calls Try.prog 34 #[.agg #[.int .i64 n, .int .i64 d], .int .i64 k] w fun e w' => e = .returned (.int .i64 (el n d k)) ∧ Below w.heap.size w w' := by
  have m0 : 0 ≤ k * (d * 1000000) := Int.mul_nonneg k0 (by omega)
  have m1 : k * (d * 1000000) ≤ 16777217 * 4096000000 := Int.mul_le_mul k1 (by omega) (by omega) (by omega)
  go_enter Try.func34, Try.ntmps34
  go_wp2_with fail
  refine Buf.region_calmB (w.heap.size + 1) (w.alloc (.cells #[.int .i64 n, .int .i64 d] 24)) (by kernel_rfl) (by kernel_rfl) (Below.refl _ _) ?_
  repeat (go_big_quiet_step ((intro hC; first | (go_at_call 38; exact Buf.calmB (by simp) hC (cycle_any _ _ _ d1 d2)) | (simp only [(boxed hC).1, (boxed hC).2, Result.andThen_ok]; first | exact ⟨trivial, rfl⟩ | rfl) | (simp only [(boxed hC).1]; exact rfl) | rfl)))
  refine wpQuiet_nil ?_
  intro w1 hb1
  go_wp2
  go_ret
  exact ⟨rfl, ((Below.refl _ _).alloc (Nat.le_refl _) _).trans (hb1.mono (by simp))⟩
theorem time_ok (st n d k : Int) (h : RV n d) (w : World) (s0 : 0 ≤ st) (s1 : st ≤ 9007199254740992) (k0 : 0 ≤ k) (k1 : k ≤ 16777216) :
    Calls Try.prog 14 #[.int .i64 st, .agg #[.int .i64 n, .int .i64 d], .int .i64 k] w fun e w' => e = .returned (.tuple #[.int .i64 (st + el n d k), .int .i64 0]) ∧ Below w.heap.size w w' := by
  obtain ⟨e0, e1⟩ := el_bd n d k h.n1 h.d1 h.d2 k0 (by omega)
  go_enter Try.func14, Try.ntmps14
  go_wp2_with (first | (go_at_call 11; refine (valid_yes n d h _).mono ?_; rintro e w1 ⟨rfl, hb⟩; obtain ⟨c0, c1⟩ := boxed (by simpa using hb)) | (go_at_call 30; refine (within_yes _ _ _ _ (by omega) (by omega)).mono ?_; rintro e w' ⟨rfl, m, rfl⟩) | (go_at_call 34; refine (elapsed_any n d k _ h.n1 h.d1 h.d2 k0 (by omega)).mono ?_; rintro e w2 ⟨rfl, hb2⟩))
  go_ret2
  exact ⟨rfl, Buf.then_ (((Below.refl _ _).alloc (Nat.le_refl _) _).trans (hb.mono (by simp))) (Buf.of_drewN hb2)⟩
theorem rv_of (a b : Nat) (a1 : 1 ≤ a) (a2 : a ≤ 4096) (b1 : 1 ≤ b) (b2 : b ≤ 4096) : RV ((a / Nat.gcd a b : Nat) : Int) ((b / Nat.gcd a b : Nat) : Int) := by
  have g0 : 0 < Nat.gcd a b := Nat.gcd_pos_of_pos_left _ (by omega)
  have ga : Nat.gcd a b ≤ a := Nat.gcd_le_left _ (by omega)
  have gb : Nat.gcd a b ≤ b := Nat.gcd_le_right _ (by omega)
  have p1 : 0 < a / Nat.gcd a b := Nat.div_pos ga g0
  have p2 : 0 < b / Nat.gcd a b := Nat.div_pos gb g0
  have q1 := Nat.div_le_self a (Nat.gcd a b)
  have q2 := Nat.div_le_self b (Nat.gcd a b)
  exact ⟨by omega, by omega, by omega, by omega, Nat.gcd_div_gcd_div_gcd_of_pos_left (by omega)⟩
end Rate
end Go.Proofs.Ytgckppkfpccanaa
