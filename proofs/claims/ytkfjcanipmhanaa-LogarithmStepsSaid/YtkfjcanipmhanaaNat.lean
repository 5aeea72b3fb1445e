/- Contracts of package nat: Valid, Compare, over slices in blocks of the program's own. -/
import Derived.Test.YtkfjcanipmhanaaKeep
import Derived.OwnWalk
namespace Go.Proofs.Ytkfjcanipmhanaa
open Go.RowKit
namespace Nat'
/-- A slice of ints at the head of a block. -/
structure Sl (w : World) (g c : Nat) (L : List Int) : Prop where
  pos : 0 < L.length
  le : L.length ≤ c
  small : L.length ≤ 64
  cells : ∀ j, j < L.length → w.cell? ⟨g, j, none⟩ = some (.int .i64 (L.getD j 0))
/-- The limbs of a number that is not 0. -/
structure VL (L : List Int) : Prop where
  lo : ∀ j, 0 ≤ L.getD j 0
  hi : ∀ j, L.getD j 0 ≤ 1073741823
  last : 1 ≤ L.getD (L.length - 1) 0
theorem Sl.below {w w' : World} {g c : Nat} {L : List Int} (h : Sl w g c L) (hb : Below w.heap.size w w') : Sl w' g c L :=
  ⟨h.pos, h.le, h.small, fun j hj => by
    have := h.cells j hj
    rw [hb.cell (p := ⟨g, j, none⟩) (World.block_lt_of_cell? w _ this)]; exact this⟩
theorem valid_any (g c n : Nat) (L : List Int) (w : World) (hs : Sl w g c L) (hv : VL L) (hn : n = L.length) :
    Calls Try.prog 25 #[.slice (some ⟨g, 0, none⟩) n c] w fun e w' => e = .returned (.bool true) ∧ w' = w := by
  have h1 := hs.pos
  have h2 := hs.le
  have h3 := hs.small
  have hc : Hid (∀ j, j < n → w.cell? ⟨g, j, none⟩ = some (.int .i64 (L.getD j 0))) := Lib.hid fun j hj => hs.cells j (by omega)
  have cl := hc.out (n - 1) (by omega)
  have l0 := hv.last
  rw [← hn] at h1 h2 h3 l0
  have V := Lib.hid hv
  clear hs hv hn
  generalize L.getD (n - 1) 0 = x at cl l0
  have e1 : ((n : Int) - 1) = ((n - 1 : Nat) : Int) := by omega
  have e2 : ((n - 1 : Nat) : Int).toNat = n - 1 := by simp
  have hx : (x != 0) = true := by rw [bne_iff_ne]; omega
  have hnz : ((n : Int) == 0) = false := by rw [beq_eq_false_iff_ne]; omega
  go_enter Try.func25, Try.ntmps25
  go_wp2
  go_loop [10] (fun i => ∃ k : Nat, k ≤ n ∧ i = .int .i64 k) (fun i => (n - intOf i).toNat)
  case atStart => exact ⟨0, by omega, rfl⟩
  case round =>
    obtain ⟨k, hk, rfl⟩ := hrel
    by_cases hlt : k < n
    · have ck := hc.out k hlt
      have y0 := V.out.lo k
      have y1 := V.out.hi k
      generalize L.getD k 0 = y at ck y0 y1
      clear cl e1 e2
      go_wp2
      go_round
      case rel => exact ⟨k + 1, by omega, by go_num⟩
      case measure => simp [intOf]; omega
    · obtain rfl : k = n := by omega
      go_wp2
      go_ret
      exact ⟨rfl, rfl⟩
def B : Int := 1073741824
/-- The number of the lowest limbs. -/
def valP (L : List Int) : Nat → Int
  | 0 => 0
  | k + 1 => valP L k + L.getD k 0 * B ^ k
theorem B_pos (k : Nat) : (0 : Int) < B ^ k := Int.pow_pos (by decide)
theorem B_one (k : Nat) : (1 : Int) ≤ B ^ k := B_pos k
theorem valP_bd (L : List Int) (lo : ∀ j, 0 ≤ L.getD j 0) (hi : ∀ j, L.getD j 0 ≤ 1073741823) (k : Nat) : 0 ≤ valP L k ∧ valP L k < B ^ k := by
  induction k with
  | zero => exact ⟨Int.le_refl 0, show (0 : Int) < B ^ 0 by decide⟩
  | succ k ih =>
    have p := B_pos k
    have a0 : 0 ≤ L.getD k 0 * B ^ k := Int.mul_nonneg (lo k) (Int.le_of_lt p)
    have a1 : L.getD k 0 * B ^ k ≤ 1073741823 * B ^ k := Int.mul_le_mul_of_nonneg_right (hi k) (Int.le_of_lt p)
    have e : B ^ (k + 1) = 1073741824 * B ^ k := by rw [Int.pow_succ, Int.mul_comm]; rfl
    constructor
    · show 0 ≤ valP L k + _; omega
    · show valP L k + _ < _; omega
theorem valP_lt (L M : List Int) (i n : Nat) (lo : ∀ j, 0 ≤ L.getD j 0) (hi : ∀ j, L.getD j 0 ≤ 1073741823) (lo' : ∀ j, 0 ≤ M.getD j 0) (hi' : ∀ j, M.getD j 0 ≤ 1073741823)
    (hlt : L.getD i 0 < M.getD i 0) (heq : ∀ j, i < j → j < n → L.getD j 0 = M.getD j 0) (hi0 : i < n) : valP L n < valP M n := by
  obtain ⟨d, rfl⟩ : ∃ d, n = i + 1 + d := ⟨n - (i + 1), by omega⟩
  clear hi0
  induction d with
  | zero =>
    have a := valP_bd L lo hi i
    have b := valP_bd M lo' hi' i
    have p := B_pos i
    have c : (L.getD i 0 + 1) * B ^ i ≤ M.getD i 0 * B ^ i := Int.mul_le_mul_of_nonneg_right hlt (Int.le_of_lt p)
    rw [Int.add_mul, Int.one_mul] at c
    show valP L i + _ < valP M i + _
    omega
  | succ d ih =>
    have := ih fun j h1 h2 => heq j h1 (by omega)
    have e := heq (i + 1 + d) (by omega) (by omega)
    show valP L (i + 1 + d) + L.getD (i + 1 + d) 0 * B ^ (i + 1 + d) < valP M (i + 1 + d) + M.getD (i + 1 + d) 0 * B ^ (i + 1 + d)
    rw [e]; omega
theorem valP_eq (L M : List Int) (n : Nat) (heq : ∀ j, j < n → L.getD j 0 = M.getD j 0) : valP L n = valP M n := by
  induction n with
  | zero => rfl
  | succ n ih =>
    show valP L n + _ = valP M n + _
    rw [ih fun j h => heq j (by omega), heq n (by omega)]
def val (L : List Int) : Int := valP L L.length
theorem val_short (L M : List Int) (hL : VL L) (hM : VL M) (h : L.length < M.length) : val L < val M := by
  have a := valP_bd L hL.lo hL.hi L.length
  obtain ⟨m, hm⟩ : ∃ m, M.length = m + 1 := ⟨M.length - 1, by omega⟩
  have b := valP_bd M hM.lo hM.hi m
  have l := hM.last
  rw [hm, Nat.add_sub_cancel] at l
  have p := B_pos m
  have c : 1 * B ^ m ≤ M.getD m 0 * B ^ m := Int.mul_le_mul_of_nonneg_right l (Int.le_of_lt p)
  have q : B ^ L.length ≤ B ^ m := by
    obtain ⟨d, rfl⟩ : ∃ d, m = L.length + d := ⟨m - L.length, by omega⟩
    rw [Int.pow_add]
    have := Int.mul_le_mul_of_nonneg_left (B_one d) (Int.le_of_lt (B_pos L.length))
    omega
  unfold val
  rw [hm]
  show _ < valP M m + _
  omega
theorem nan_any (x : Int) (w : World) : Calls Try.prog 35 #[.int .i64 x] w fun e w' => e = .returned (.bool false) ∧ w' = w := by
  go_enter Try.func35, Try.ntmps35
  go_wp2
  go_ret
  exact ⟨by simp, rfl⟩
theorem cmp_lt (x y : Int) (w : World) (h : x < y) : Calls Try.prog 33 #[.int .i64 x, .int .i64 y] w fun e w' => e = .returned (.int .i64 (-1)) ∧ w' = w := by
  go_enter Try.func33, Try.ntmps33
  go_wp2_with (go_at_call 35; refine (nan_any _ _).mono ?_; rintro e w1 ⟨rfl, rfl⟩)
  go_ret
  exact ⟨rfl, rfl⟩
theorem cmp_gt (x y : Int) (w : World) (h : y < x) : Calls Try.prog 33 #[.int .i64 x, .int .i64 y] w fun e w' => e = .returned (.int .i64 1) ∧ w' = w := by
  go_enter Try.func33, Try.ntmps33
  go_wp2_with (go_at_call 35; refine (nan_any _ _).mono ?_; rintro e w1 ⟨rfl, rfl⟩)
  go_ret
  exact ⟨rfl, rfl⟩
theorem cmp_eq (x : Int) (w : World) : Calls Try.prog 33 #[.int .i64 x, .int .i64 x] w fun e w' => e = .returned (.int .i64 0) ∧ w' = w := by
  go_enter Try.func33, Try.ntmps33
  go_wp2_with (go_at_call 35; refine (nan_any _ _).mono ?_; rintro e w1 ⟨rfl, rfl⟩)
  go_ret
  exact ⟨rfl, rfl⟩
/-- What a comparison tells. -/
def Told (a b : Int) (e : Ending) : Prop := (e = .returned (.int .i64 (-1)) ∧ a < b) ∨ (e = .returned (.int .i64 1) ∧ b < a) ∨ (e = .returned (.int .i64 0) ∧ a = b)
theorem compare_any (g c n g' c' n' : Nat) (L M : List Int) (w : World) (hs : Sl w g c L) (hs' : Sl w g' c' M) (hv : VL L) (hv' : VL M) (hn : n = L.length) (hn' : n' = M.length) :
    Calls Try.prog 30 #[.slice (some ⟨g, 0, none⟩) n c, .slice (some ⟨g', 0, none⟩) n' c'] w fun e w' => Told (val L) (val M) e ∧ ∃ m, w' = w.drewN m := by
  have h1 := hs.pos
  have h2 := hs.le
  have h3 := hs.small
  have h1' := hs'.pos
  have h2' := hs'.le
  have h3' := hs'.small
  rw [← hn] at h1 h2 h3
  rw [← hn'] at h1' h2' h3'
  rcases Nat.lt_trichotomy n n' with h | h | h
  · have T : Hid (val L < val M) := Lib.hid (val_short L M hv hv' (by omega))
    clear hs hs' hv hv' hn hn'
    go_enter Try.func30, Try.ntmps30
    go_wp2_with (go_at_call 33; refine (cmp_lt _ _ _ (by omega)).mono ?_; rintro e w1 ⟨rfl, rfl⟩)
    go_ret
    exact ⟨.inl ⟨rfl, T.out⟩, 0, rfl⟩
  · subst h
    have C : Hid (∀ j, j < n → w.cell? ⟨g, j, none⟩ = some (.int .i64 (L.getD j 0))) := Lib.hid fun j hj => hs.cells j (by omega)
    have C' : Hid (∀ j, j < n → w.cell? ⟨g', j, none⟩ = some (.int .i64 (M.getD j 0))) := Lib.hid fun j hj => hs'.cells j (by omega)
    have eL : Hid (val L = valP L n) := by unfold val; rw [← hn]; exact Lib.hid rfl
    have eM : Hid (val M = valP M n) := by unfold val; rw [← hn']; exact Lib.hid rfl
    have hv := Lib.hid hv
    have hv' := Lib.hid hv'
    clear hs hs' hn hn'
    go_enter Try.func30, Try.ntmps30
    go_wp2_with (go_at_call 33; refine (cmp_eq _ _).mono ?_; rintro e w1 ⟨rfl, rfl⟩)
    go_loopw [6] (fun i wr => ∃ k : Nat, k ≤ n ∧ i = .int .i64 ((k : Int) - 1) ∧ Hid (∀ j, k ≤ j → j < n → L.getD j 0 = M.getD j 0) ∧ ∃ m, wr = w1.drewN m) (fun i _ => (intOf i + 1).toNat)
    case atStart => exact ⟨n, Nat.le_refl _, rfl, Lib.hid fun j a b => by omega, 0, rfl⟩
    case round =>
      obtain ⟨k, hk, rfl, hq, m, hm⟩ := hrel
      replace hm := Lib.hid hm
      by_cases hz : k = 0
      · subst hz
        go_wp2
        go_ret
        exact ⟨.inr (.inr ⟨rfl, by rw [eL.out, eM.out]; exact valP_eq L M n fun j hj => hq.out j (Nat.zero_le _) hj⟩), m, hm.out⟩
      · obtain ⟨j, rfl⟩ : ∃ j, k = j + 1 := ⟨k - 1, by omega⟩
        have ej : ((j + 1 : Nat) : Int) - 1 = (j : Int) := by omega
        rw [ej]
        have HJ := Lib.hid ej
        clear ej
        have hj0 : (0 : Int) ≤ (j : Int) := by omega
        have hj1 : (j : Int) < (n : Int) := by omega
        have ck : wr.cell? ⟨g, j, none⟩ = some (.int .i64 (L.getD j 0)) := by rw [hm.out]; exact C.out j (by omega)
        have ck' : wr.cell? ⟨g', j, none⟩ = some (.int .i64 (M.getD j 0)) := by rw [hm.out]; exact C'.out j (by omega)
        have Q := Lib.hid fun (h : L.getD j 0 < M.getD j 0) => valP_lt L M j n hv.out.lo hv.out.hi hv'.out.lo hv'.out.hi h (fun i a b => hq.out i (by omega) b) (by omega)
        have Q' := Lib.hid fun (h : M.getD j 0 < L.getD j 0) => valP_lt M L j n hv'.out.lo hv'.out.hi hv.out.lo hv.out.hi h (fun i a b => (hq.out i (by omega) b).symm) (by omega)
        have E := Lib.hid fun (h : L.getD j 0 = M.getD j 0) (i : Nat) (a : j ≤ i) (b : i < n) => show L.getD i 0 = M.getD i 0 by
          by_cases e : i = j
          · rw [e]; exact h
          · exact hq.out i (by omega) b
        generalize L.getD j 0 = x at ck Q Q' E
        generalize M.getD j 0 = y at ck' Q Q' E
        rcases Int.lt_trichotomy x y with h | rfl | h
        · go_wp2_with fail
          go_quiet ((go_at_call 33; exact Calls.quiet_of_same (cmp_lt _ _ _ h)))
          go_wp2
          go_ret
          exact ⟨.inl ⟨rfl, by rw [eL.out, eM.out]; exact Q.out h⟩, _, by rw [hm.out]; exact World.drewN_drewN _ _ _⟩
        · go_wp2_with fail
          go_quiet ((go_at_call 33; exact Calls.quiet_of_same (cmp_eq _ _)))
          go_wp2
          go_roundw
          case rel => exact ⟨j, by omega, rfl, Lib.hid (E.out trivial), _, by rw [hm.out]; exact World.drewN_drewN _ _ _⟩
          case measure => simp [intOf]
        · go_wp2_with fail
          go_quiet ((go_at_call 33; exact Calls.quiet_of_same (cmp_gt _ _ _ h)))
          go_wp2
          go_ret
          exact ⟨.inr (.inl ⟨rfl, by rw [eL.out, eM.out]; exact Q'.out h⟩), _, by rw [hm.out]; exact World.drewN_drewN _ _ _⟩
  · have T : Hid (val M < val L) := Lib.hid (val_short M L hv' hv (by omega))
    clear hs hs' hv hv' hn hn'
    go_enter Try.func30, Try.ntmps30
    go_wp2_with (go_at_call 33; refine (cmp_gt _ _ _ (by omega)).mono ?_; rintro e w1 ⟨rfl, rfl⟩)
    go_ret
    exact ⟨.inr (.inl ⟨rfl, T.out⟩), 0, rfl⟩
end Nat'
end Go.Proofs.Ytkfjcanipmhanaa
