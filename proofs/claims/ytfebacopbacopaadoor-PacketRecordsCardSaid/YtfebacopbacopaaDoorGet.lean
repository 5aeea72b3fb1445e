/- Contracts of bits.Get. -/
import Derived.Test.YtfebacopbacopaaDoorPut
namespace Go.Proofs.YtfebacopbacopaaDoor
open Go.RowKit
namespace Bits

theorem get_rng (s : ByteArray) (at_ wd : Int) (w : World) (h : wd < 1 ∨ 7 < wd ∨ at_ < 0) :
    Calls Tryd.prog 69 #[.string s, .int .i64 at_, .int .i64 wd] w fun e w' => e = .returned (.tuple #[.int .i64 0, .int .i64 2]) ∧ ∃ m, w' = w.drewN m := by
  by_cases hb : 1 ≤ wd ∧ wd ≤ 7
  · obtain ⟨hb1, hb2⟩ := hb
    have h' : at_ < 0 := by omega
    clear h
    go_enter Tryd.func69, Tryd.ntmps69
    go_wp2_with (go_at_call 32; (first | refine (within_yes _ _ _ _ (by omega) (by omega)).mono ?_ | refine (within_no _ _ _ _ (by omega)).mono ?_); rintro e w' ⟨rfl, m, rfl⟩)
    go_ret2
    exact ⟨rfl, _, rfl⟩
  · clear h
    go_enter Tryd.func69, Tryd.ntmps69
    go_wp2_with (go_at_call 32; (first | refine (within_yes _ _ _ _ (by omega) (by omega)).mono ?_ | refine (within_no _ _ _ _ (by omega)).mono ?_); rintro e w' ⟨rfl, m, rfl⟩)
    go_ret2
    exact ⟨rfl, _, rfl⟩
theorem get_trunc (s : ByteArray) (at_ wd : Int) (w : World) (hs : s.size ≤ 1000000) (h1 : 1 ≤ wd) (h7 : wd ≤ 7) (h0 : 0 ≤ at_) (h : (s.size : Int) - wd < at_) :
    Calls Tryd.prog 69 #[.string s, .int .i64 at_, .int .i64 wd] w fun e w' => e = .returned (.tuple #[.int .i64 0, .int .i64 4]) ∧ ∃ m, w' = w.drewN m := by
  go_enter Tryd.func69, Tryd.ntmps69
  go_wp2_with (go_at_call 32; (first | refine (within_yes _ _ _ _ (by omega) (by omega)).mono ?_ | refine (within_no _ _ _ _ (by omega)).mono ?_); rintro e w' ⟨rfl, m, rfl⟩)
  go_ret2
  exact ⟨rfl, _, rfl⟩
set_option maxHeartbeats 400000 in
theorem get_ok (s : ByteArray) (p wd : Nat) (w : World) (hs : s.size ≤ 1000000) (h1 : 1 ≤ wd) (h7 : wd ≤ 7) (h : p + wd ≤ s.size) :
    Calls Tryd.prog 69 #[.string s, .int .i64 p, .int .i64 wd] w fun e w' => e = .returned (.tuple #[.int .i64 (Ma.gv ((s.data.toList.drop p).take wd) : Nat), .int .i64 0]) ∧ ∃ m, w' = w.drewN m := by
  go_enter Tryd.func69, Tryd.ntmps69
  go_wp2_with (go_at_call 32; (first | refine (within_yes _ _ _ _ (by omega) (by omega)).mono ?_ | refine (within_no _ _ _ _ (by omega)).mono ?_); rintro e w' ⟨rfl, m, rfl⟩)
  go_loop [8, 24] (fun n i => ∃ k : Nat, k ≤ wd ∧ i = .int .i64 k ∧ n = .int .i64 (Ma.gv ((s.data.toList.drop p).take k) : Nat)) (fun _ i => wd - (intOf i).toNat)
  case atStart => exact ⟨0, by omega, rfl, rfl⟩
  case round =>
    obtain ⟨k, hk, rfl, rfl⟩ := hrel
    by_cases hlt : k < wd
    · have hg := Ma.gv_lt6 ((s.data.toList.drop p).take k) (by have := List.length_take_le k (s.data.toList.drop p); omega)
      have hsn := Ma.gv_take s p k (by omega)
      obtain ⟨x, hx⟩ : ∃ x, x = Ma.gv ((s.data.toList.drop p).take k) := ⟨_, rfl⟩
      rw [← hx] at hg hsn ⊢
      have e1 := Ma.or_byte x (s[p + k]'(by omega)).toNat (by omega) (s[p + k]'(by omega)).toNat_lt
      have HS := Lib.hid hsn
      have hb8 : ((s[p + k]'(by omega)).toNat : Int) ≤ 255 := by have := (s[p + k]'(by omega)).toNat_lt; omega
      have hx1 : 0 ≤ (x : Int) * 256 := by omega
      have hx2 : (x : Int) * 256 ≤ 72057594037927936 := by omega
      clear hx hsn
      go_wp2
      go_round
      case rel => exact ⟨k + 1, by omega, by go_num, by rw [HS.out]; go_num⟩
      case measure => simp [intOf]; omega
    · obtain rfl : k = wd := by omega
      go_wp2
      go_ret2
      exact ⟨rfl, _, rfl⟩
theorem pair_no (n i : Int) (w : World) (h : n < 0 ∨ 4294967295 < n ∨ i < 0 ∨ 15 < i) :
    Calls Tryd.prog 96 #[.int .i64 n, .int .i64 i] w fun e w' => e = .returned (.tuple #[.int .i64 0, .int .i64 2]) ∧ ∃ m, w' = w.drewN m := by
  by_cases hb : 0 ≤ n ∧ n ≤ 4294967295
  · obtain ⟨hb1, hb2⟩ := hb
    have h' : i < 0 ∨ 15 < i := by omega
    clear h
    go_enter Tryd.func96, Tryd.ntmps96
    go_wp2_with (go_at_call 32; (first | refine (within_yes _ _ _ _ (by omega) (by omega)).mono ?_ | refine (within_no _ _ _ _ (by omega)).mono ?_); rintro e w' ⟨rfl, m, rfl⟩)
    go_ret2
    exact ⟨rfl, _, rfl⟩
  · clear h
    go_enter Tryd.func96, Tryd.ntmps96
    go_wp2_with (go_at_call 32; refine (within_no _ _ _ _ (by omega)).mono ?_; rintro e w' ⟨rfl, m, rfl⟩)
    go_ret2
    exact ⟨rfl, _, rfl⟩
theorem setPair_no (n i v : Int) (w : World) (h : n < 0 ∨ 4294967295 < n ∨ i < 0 ∨ 15 < i ∨ v < 0 ∨ 3 < v) :
    Calls Tryd.prog 66 #[.int .i64 n, .int .i64 i, .int .i64 v] w fun e w' => e = .returned (.tuple #[.int .i64 0, .int .i64 2]) ∧ ∃ m, w' = w.drewN m := by
  by_cases hb : 0 ≤ n ∧ n ≤ 4294967295
  · obtain ⟨hb1, hb2⟩ := hb
    by_cases hc : 0 ≤ i ∧ i ≤ 15
    · obtain ⟨hc1, hc2⟩ := hc
      have h' : v < 0 ∨ 3 < v := by omega
      clear h
      go_enter Tryd.func66, Tryd.ntmps66
      go_wp2_with (go_at_call 32; (first | refine (within_yes _ _ _ _ (by omega) (by omega)).mono ?_ | refine (within_no _ _ _ _ (by omega)).mono ?_); rintro e w' ⟨rfl, m, rfl⟩)
      go_ret2
      exact ⟨rfl, _, rfl⟩
    · clear h
      go_enter Tryd.func66, Tryd.ntmps66
      go_wp2_with (go_at_call 32; (first | refine (within_yes _ _ _ _ (by omega) (by omega)).mono ?_ | refine (within_no _ _ _ _ (by omega)).mono ?_); rintro e w' ⟨rfl, m, rfl⟩)
      go_ret2
      exact ⟨rfl, _, rfl⟩
  · clear h
    go_enter Tryd.func66, Tryd.ntmps66
    go_wp2_with (go_at_call 32; refine (within_no _ _ _ _ (by omega)).mono ?_; rintro e w' ⟨rfl, m, rfl⟩)
    go_ret2
    exact ⟨rfl, _, rfl⟩
end Bits
end Go.Proofs.YtfebacopbacopaaDoor
