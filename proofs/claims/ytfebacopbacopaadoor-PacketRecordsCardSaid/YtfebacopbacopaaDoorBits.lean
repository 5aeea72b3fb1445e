/- Contracts of the functions of package bits over this seat's translation. -/
import Derived.Test.YtfebacopbacopaaDoorRows
import Derived.Test.YtfebacopbacopaaDoorMath
import Derived.WalkKit
import Derived.ProofKit
import Derived.Outline
import Derived.Handy
import Derived.WalkSpells
import Derived.WalkLawsBesides
import Derived.Deep.QuietTactic
import Derived.BigQuiet
import Derived.Lib.Hide
namespace Go.Proofs.YtfebacopbacopaaDoor
open Go.RowKit
namespace Bits

theorem quiet_add {P : Program} {f : FuncId} {args : Array Value} {w : World} {a n : Nat} {v : Value}
    (h : Calls P f args (w.drewN (a + n)) fun e w' => e = .returned v ∧ ∃ m, w' = (w.drewN (a + n)).drewN m) :
    Calls P f args (w.drewN (a + n)) fun e w'' => e = .returned v ∧ ∃ m, w'' = w.drewN (a + m) :=
  h.mono fun _ _ ⟨he, m, hm⟩ => ⟨he, n + m, by rw [hm, World.drewN_drewN, Nat.add_assoc]⟩
theorem ret1 {k : IntKind} {a b : Int} (h : a = b) : Ending.returned (.int k a) = .returned (.int k b) := by rw [h]
theorem ret2 {k l : IntKind} {a b c d : Int} (h : a = b) (g : c = d) : Ending.returned (.tuple #[.int k a, .int l c]) = .returned (.tuple #[.int k b, .int l d]) := by rw [h, g]
theorem within_yes (n lo hi : Int) (w : World) (h1 : lo ≤ n) (h2 : n ≤ hi) :
    Calls Tryd.prog 32 #[.int .i64 n, .int .i64 lo, .int .i64 hi] w fun e w' => e = .returned (.bool true) ∧ ∃ m, w' = w.drewN m := by
  go_enter Tryd.func32, Tryd.ntmps32
  go_wp2
  go_ret
  exact ⟨rfl, 0, rfl⟩
theorem within_no (n lo hi : Int) (w : World) (h : n < lo ∨ hi < n) :
    Calls Tryd.prog 32 #[.int .i64 n, .int .i64 lo, .int .i64 hi] w fun e w' => e = .returned (.bool false) ∧ ∃ m, w' = w.drewN m := by
  by_cases h1 : lo ≤ n
  · have h2 : ¬ n ≤ hi := by omega
    clear h
    go_enter Tryd.func32, Tryd.ntmps32
    go_wp2
    go_ret
    exact ⟨rfl, 0, rfl⟩
  · clear h
    go_enter Tryd.func32, Tryd.ntmps32
    go_wp2
    go_ret
    exact ⟨rfl, 0, rfl⟩
theorem fits_yes (n b : Int) (w : World) (hb1 : 1 ≤ b) (hb2 : b ≤ 56) (h1 : -(2 ^ (b.toNat - 1)) ≤ n) (h2 : n < 2 ^ (b.toNat - 1)) :
    Calls Tryd.prog 64 #[.int .i64 n, .int .i64 b] w fun e w' => e = .returned (.bool true) ∧ ∃ m, w' = w.drewN m := by
  obtain ⟨p1, p2⟩ := Ma.pow_bd (b.toNat - 1) 55 (by omega)
  have p2 : (2 : Int) ^ (b.toNat - 1) ≤ 36028797018963968 := p2
  go_enter Tryd.func64, Tryd.ntmps64
  go_wp2
  go_quiet ((go_at_call 32; exact Calls.quiet_of (within_yes _ _ _ _ (by omega) (by omega))))
  go_wp2
  go_ret
  exact ⟨rfl, _, rfl⟩
theorem fits_no (n b : Int) (w : World) (h : b < 1 ∨ 56 < b ∨ n < -(2 ^ (b.toNat - 1)) ∨ 2 ^ (b.toNat - 1) ≤ n) :
    Calls Tryd.prog 64 #[.int .i64 n, .int .i64 b] w fun e w' => e = .returned (.bool false) ∧ ∃ m, w' = w.drewN m := by
  by_cases hb : 1 ≤ b ∧ b ≤ 56
  · obtain ⟨hb1, hb2⟩ := hb
    have h' : n < -(2 ^ (b.toNat - 1)) ∨ 2 ^ (b.toNat - 1) ≤ n := by omega
    clear h
    obtain ⟨p1, p2⟩ := Ma.pow_bd (b.toNat - 1) 55 (by omega)
    have p2 : (2 : Int) ^ (b.toNat - 1) ≤ 36028797018963968 := p2
    go_enter Tryd.func64, Tryd.ntmps64
    go_wp2
    go_quiet ((go_at_call 32; (first | exact Calls.quiet_of (within_yes _ _ _ _ (by omega) (by omega)) | exact Calls.quiet_of (within_no _ _ _ _ (by omega)))))
    go_wp2
    go_ret
    exact ⟨rfl, _, rfl⟩
  · clear h
    go_enter Tryd.func64, Tryd.ntmps64
    go_wp2
    go_quiet ((go_at_call 32; (first | exact Calls.quiet_of (within_no _ _ _ _ (by omega)))))
    go_wp2
    go_ret
    exact ⟨rfl, _, rfl⟩
theorem wrap_no (n b : Int) (w : World) (h : b < 1 ∨ 56 < b ∨ n < -(2 ^ (b.toNat - 1)) ∨ 2 ^ (b.toNat - 1) ≤ n) :
    Calls Tryd.prog 46 #[.int .i64 n, .int .i64 b] w fun e w' => e = .returned (.tuple #[.int .i64 0, .int .i64 2]) ∧ ∃ m, w' = w.drewN m := by
  go_enter Tryd.func46, Tryd.ntmps46
  go_wp2_with (go_at_call 64; refine (fits_no _ _ _ h).mono ?_; rintro e w' ⟨rfl, m, rfl⟩)
  go_ret2
  exact ⟨rfl, _, rfl⟩
theorem wrap_yes (n b : Int) (w : World) (hb1 : 1 ≤ b) (hb2 : b ≤ 56) (h1 : -(2 ^ (b.toNat - 1)) ≤ n) (h2 : n < 2 ^ (b.toNat - 1)) :
    Calls Tryd.prog 46 #[.int .i64 n, .int .i64 b] w fun e w' => e = .returned (.tuple #[.int .i64 (n % 2 ^ b.toNat), .int .i64 0]) ∧ ∃ m, w' = w.drewN m := by
  obtain ⟨p1, p2⟩ := Ma.pow_bd b.toNat 56 (by omega)
  have p2 : (2 : Int) ^ b.toNat ≤ 72057594037927936 := p2
  go_enter Tryd.func46, Tryd.ntmps46
  go_wp2_with (go_at_call 64; refine (fits_yes _ _ _ hb1 hb2 h1 h2).mono ?_; rintro e w' ⟨rfl, m, rfl⟩)
  go_ret2
  exact ⟨ret2 (Ma.and_mask n b.toNat (by omega)) rfl, _, rfl⟩
theorem sign_no (n b : Int) (w : World) (h : b < 1 ∨ 56 < b ∨ n < 0 ∨ 2 ^ b.toNat ≤ n) :
    Calls Tryd.prog 87 #[.int .i64 n, .int .i64 b] w fun e w' => e = .returned (.tuple #[.int .i64 0, .int .i64 2]) ∧ ∃ m, w' = w.drewN m := by
  by_cases hb : 1 ≤ b ∧ b ≤ 56
  · obtain ⟨hb1, hb2⟩ := hb
    have h' : n < 0 ∨ 2 ^ b.toNat ≤ n := by omega
    clear h
    obtain ⟨p1, p2⟩ := Ma.pow_bd b.toNat 56 (by omega)
    have p2 : (2 : Int) ^ b.toNat ≤ 72057594037927936 := p2
    go_enter Tryd.func87, Tryd.ntmps87
    go_wp2_with (go_at_call 32; (first | refine (within_yes _ _ _ _ (by omega) (by omega)).mono ?_ | refine (within_no _ _ _ _ (by omega)).mono ?_); rintro e w' ⟨rfl, m, rfl⟩)
    go_ret2
    exact ⟨rfl, _, rfl⟩
  · clear h
    go_enter Tryd.func87, Tryd.ntmps87
    go_wp2_with (go_at_call 32; refine (within_no _ _ _ _ (by omega)).mono ?_; rintro e w' ⟨rfl, m, rfl⟩)
    go_ret2
    exact ⟨rfl, _, rfl⟩
theorem sign_yes (n b : Int) (w : World) (hb1 : 1 ≤ b) (hb2 : b ≤ 56) (h1 : 0 ≤ n) (h2 : n < 2 ^ b.toNat) :
    Calls Tryd.prog 87 #[.int .i64 n, .int .i64 b] w fun e w' => e = .returned (.tuple #[.int .i64 (Ma.sg n (2 ^ (b.toNat - 1)) (2 ^ b.toNat)), .int .i64 0]) ∧ ∃ m, w' = w.drewN m := by
  obtain ⟨p1, p2⟩ := Ma.pow_bd b.toNat 56 (by omega)
  have p2 : (2 : Int) ^ b.toNat ≤ 72057594037927936 := p2
  go_enter Tryd.func87, Tryd.ntmps87
  go_wp2_with (go_at_call 32; refine (within_yes _ _ _ _ (by omega) (by omega)).mono ?_; rintro e w' ⟨rfl, m, rfl⟩)
  go_ret2
  exact ⟨ret2 (Ma.sgn n (2 ^ (b.toNat - 1)) (2 ^ b.toNat) h1 h2 (Ma.pow_half _ (by omega)) p2) rfl, _, rfl⟩
theorem shift_any (i : Int) (s : Nat) (w : World) (hs : Hid (2 * (15 - i) = s)) (h3 : 0 ≤ i) (h4 : i ≤ 15) :
    Calls Tryd.prog 80 #[.int .i64 i] w fun e w' => e = .returned (.int .i64 s) ∧ ∃ m, w' = w.drewN m := by
  go_enter Tryd.func80, Tryd.ntmps80
  go_wp2
  go_ret
  exact ⟨ret1 hs.out, 0, rfl⟩
theorem pair_yes (n i : Int) (w : World) (h1 : 0 ≤ n) (h2 : n ≤ 4294967295) (h3 : 0 ≤ i) (h4 : i ≤ 15) :
    Calls Tryd.prog 96 #[.int .i64 n, .int .i64 i] w fun e w' => e = .returned (.tuple #[.int .i64 (Ma.pr n (15 - i).toNat), .int .i64 0]) ∧ ∃ m, w' = w.drewN m := by
  obtain ⟨s, hs⟩ : ∃ s : Nat, s = 2 * (15 - i).toNat := ⟨_, rfl⟩
  have H : Hid (2 * (15 - i) = (s : Int)) := by show _ = _; omega
  have hs30 : s ≤ 30 := by omega
  have Hs : Hid (s = 2 * (15 - i).toNat) := hs
  clear hs
  go_enter Tryd.func96, Tryd.ntmps96
  go_wp2_with (first | (go_at_call 32; refine (within_yes _ _ _ _ (by omega) (by omega)).mono ?_; rintro e w' ⟨rfl, m, rfl⟩) | (go_at_call 80; refine (shift_any _ s _ H h3 h4).mono ?_; rintro e w' ⟨rfl, m, rfl⟩))
  go_ret2
  exact ⟨ret2 (Ma.pr_bits _ _ _ Hs.out) rfl, _, rfl⟩
theorem setPair_yes (n i v : Int) (w : World) (h1 : 0 ≤ n) (h2 : n ≤ 4294967295) (h3 : 0 ≤ i) (h4 : i ≤ 15) (h5 : 0 ≤ v) (h6 : v ≤ 3) :
    Calls Tryd.prog 66 #[.int .i64 n, .int .i64 i, .int .i64 v] w fun e w' => e = .returned (.tuple #[.int .i64 (Ma.setPr n (15 - i).toNat v), .int .i64 0]) ∧ ∃ m, w' = w.drewN m := by
  obtain ⟨s, hs⟩ : ∃ s : Nat, s = 2 * (15 - i).toNat := ⟨_, rfl⟩
  have H : Hid (2 * (15 - i) = (s : Int)) := by show _ = _; omega
  have hs30 : s ≤ 30 := by omega
  have Hs : Hid (s = 2 * (15 - i).toNat) := hs
  clear hs
  obtain ⟨p1, p2⟩ := Ma.pow_bd s 30 hs30
  have p2 : (2 : Int) ^ s ≤ 1073741824 := p2
  have q1 : 0 ≤ v * 2 ^ s := Int.mul_nonneg h5 (by omega)
  have q2 : v * 2 ^ s ≤ 3 * 2 ^ s := Int.mul_le_mul_of_nonneg_right h6 (by omega)
  go_enter Tryd.func66, Tryd.ntmps66
  go_wp2_with (go_at_call 32; refine (within_yes _ _ _ _ (by omega) (by omega)).mono ?_; rintro e w' ⟨rfl, m, rfl⟩)
  go_quiet ((go_at_call 80; exact quiet_add (shift_any _ s _ H h3 h4)))
  go_wp2
  go_ret2
  exact ⟨ret2 (Ma.setPr_bits n v _ s Hs.out (by omega) h1 h2 h5 h6) rfl, _, World.drewN_drewN _ _ _⟩
end Bits
end Go.Proofs.YtfebacopbacopaaDoor
