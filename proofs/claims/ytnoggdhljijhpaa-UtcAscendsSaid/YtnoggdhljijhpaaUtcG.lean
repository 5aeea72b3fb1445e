/- number, hasLayout of texts of known form. -/
import Derived.Test.YtnoggdhljijhpaaUtcP
set_option linter.unusedVariables false
set_option linter.unusedSimpArgs false
namespace Go.Proofs.Ytnoggdhljijhpaa
open Go.RowKit
namespace Utc
/-- A digit. -/
def Dg (b : UInt8) : Prop := 48 ≤ (b.toNat : Int) ∧ (b.toNat : Int) ≤ 57
theorem dg_wrap {b : UInt8} (h : Dg b) : IntKind.u8.wrap ((b.toNat : Int) - 48) = (b.toNat : Int) - 48 := by
  rw [IntKind.wrap_u8]; unfold Dg at h; omega
def dv (b : UInt8) : Int := (b.toNat : Int) - 48
set_option maxHeartbeats 2000000 in
theorem number_2 (x0 x1 : UInt8) (h0 : Dg x0) (h1 : Dg x1) (w : World) :
    Calls Try.prog 37 #[.string ⟨⟨[x0, x1]⟩⟩] w fun e w' => e = .returned (.int .i64 (10 * (10 * 0 + dv x0) + dv x1)) ∧ w' = w := by
  have e0 := dg_wrap h0
  obtain ⟨l0, u0⟩ := h0
  have d0 : Hid (((x0.toNat : Int) - 48) % 256 = dv x0) := Lib.hid (by unfold dv; omega)
  have e1 := dg_wrap h1
  obtain ⟨l1, u1⟩ := h1
  have d1 : Hid (((x1.toNat : Int) - 48) % 256 = dv x1) := Lib.hid (by unfold dv; omega)
  go_enter Try.func37, Try.ntmps37
  go_wp2_with fail
  go_loop [3, 7] (fun s3 s7 => ∃ k : Nat, k ≤ 2 ∧ s7 = .int .i64 k ∧ s3 = .int .i64 ([0, (10 * 0 + dv x0), (10 * (10 * 0 + dv x0) + dv x1)].getD k 0)) (fun _ s7 => (2 - intOf s7).toNat)
  case atStart => exact ⟨0, by omega, rfl, rfl⟩
  case round =>
    obtain ⟨k, hk, rfl, rfl⟩ := hrel
    have hk' : k = 0 ∨ k = 1 ∨ k = 2 := by omega
    rcases hk' with rfl | rfl | rfl
    · rw [show ([0, (10 * 0 + dv x0), (10 * (10 * 0 + dv x0) + dv x1)] : List Int).getD 0 0 = 0 from rfl, show (((0 : Nat) : Int)) = 0 from rfl]
      go_wp2_with fail
      go_round
      case rel => exact ⟨1, by omega, rfl, by show Value.int .i64 (((x0.toNat : Int) - 48) % 256) = Value.int .i64 (10 * 0 + dv x0); rw [d0.out]; simp⟩
      case measure => simp [intOf]
    · have hv : ([0, (10 * 0 + dv x0), (10 * (10 * 0 + dv x0) + dv x1)] : List Int).getD 1 0 = (10 * 0 + dv x0) := rfl
      rw [hv]
      obtain ⟨q, hq⟩ : ∃ q : Int, q = (10 * 0 + dv x0) := ⟨_, rfl⟩
      have q0 : 0 ≤ q := by rw [hq]; (try simp only [dv]); omega
      have q9 : q ≤ 100 := by rw [hq]; (try simp only [dv]); omega
      rw [← hq]
      replace hq := Lib.hid hq
      clear hv
      rw [show (((1 : Nat) : Int)) = 1 from rfl]
      go_wp2_with fail
      go_round
      case rel => exact ⟨2, by omega, rfl, by (have hq' := hq.out; subst hq'); show Value.int .i64 (10 * (10 * 0 + dv x0) + ((x1.toNat : Int) - 48) % 256) = Value.int .i64 (10 * (10 * 0 + dv x0) + dv x1); rw [d1.out]⟩
      case measure => simp [intOf]
    · go_wp2_with fail
      go_ret
      exact ⟨rfl, rfl⟩
set_option maxHeartbeats 2000000 in
theorem number_4 (x0 x1 x2 x3 : UInt8) (h0 : Dg x0) (h1 : Dg x1) (h2 : Dg x2) (h3 : Dg x3) (w : World) :
    Calls Try.prog 37 #[.string ⟨⟨[x0, x1, x2, x3]⟩⟩] w fun e w' => e = .returned (.int .i64 (10 * (10 * (10 * (10 * 0 + dv x0) + dv x1) + dv x2) + dv x3)) ∧ w' = w := by
  have e0 := dg_wrap h0
  obtain ⟨l0, u0⟩ := h0
  have d0 : Hid (((x0.toNat : Int) - 48) % 256 = dv x0) := Lib.hid (by unfold dv; omega)
  have e1 := dg_wrap h1
  obtain ⟨l1, u1⟩ := h1
  have d1 : Hid (((x1.toNat : Int) - 48) % 256 = dv x1) := Lib.hid (by unfold dv; omega)
  have e2 := dg_wrap h2
  obtain ⟨l2, u2⟩ := h2
  have d2 : Hid (((x2.toNat : Int) - 48) % 256 = dv x2) := Lib.hid (by unfold dv; omega)
  have e3 := dg_wrap h3
  obtain ⟨l3, u3⟩ := h3
  have d3 : Hid (((x3.toNat : Int) - 48) % 256 = dv x3) := Lib.hid (by unfold dv; omega)
  go_enter Try.func37, Try.ntmps37
  go_wp2_with fail
  go_loop [3, 7] (fun s3 s7 => ∃ k : Nat, k ≤ 4 ∧ s7 = .int .i64 k ∧ s3 = .int .i64 ([0, (10 * 0 + dv x0), (10 * (10 * 0 + dv x0) + dv x1), (10 * (10 * (10 * 0 + dv x0) + dv x1) + dv x2), (10 * (10 * (10 * (10 * 0 + dv x0) + dv x1) + dv x2) + dv x3)].getD k 0)) (fun _ s7 => (4 - intOf s7).toNat)
  case atStart => exact ⟨0, by omega, rfl, rfl⟩
  case round =>
    obtain ⟨k, hk, rfl, rfl⟩ := hrel
    have hk' : k = 0 ∨ k = 1 ∨ k = 2 ∨ k = 3 ∨ k = 4 := by omega
    rcases hk' with rfl | rfl | rfl | rfl | rfl
    · rw [show ([0, (10 * 0 + dv x0), (10 * (10 * 0 + dv x0) + dv x1), (10 * (10 * (10 * 0 + dv x0) + dv x1) + dv x2), (10 * (10 * (10 * (10 * 0 + dv x0) + dv x1) + dv x2) + dv x3)] : List Int).getD 0 0 = 0 from rfl, show (((0 : Nat) : Int)) = 0 from rfl]
      go_wp2_with fail
      go_round
      case rel => exact ⟨1, by omega, rfl, by show Value.int .i64 (((x0.toNat : Int) - 48) % 256) = Value.int .i64 (10 * 0 + dv x0); rw [d0.out]; simp⟩
      case measure => simp [intOf]
    · have hv : ([0, (10 * 0 + dv x0), (10 * (10 * 0 + dv x0) + dv x1), (10 * (10 * (10 * 0 + dv x0) + dv x1) + dv x2), (10 * (10 * (10 * (10 * 0 + dv x0) + dv x1) + dv x2) + dv x3)] : List Int).getD 1 0 = (10 * 0 + dv x0) := rfl
      rw [hv]
      obtain ⟨q, hq⟩ : ∃ q : Int, q = (10 * 0 + dv x0) := ⟨_, rfl⟩
      have q0 : 0 ≤ q := by rw [hq]; (try simp only [dv]); omega
      have q9 : q ≤ 100 := by rw [hq]; (try simp only [dv]); omega
      rw [← hq]
      replace hq := Lib.hid hq
      clear hv
      rw [show (((1 : Nat) : Int)) = 1 from rfl]
      go_wp2_with fail
      go_round
      case rel => exact ⟨2, by omega, rfl, by (have hq' := hq.out; subst hq'); show Value.int .i64 (10 * (10 * 0 + dv x0) + ((x1.toNat : Int) - 48) % 256) = Value.int .i64 (10 * (10 * 0 + dv x0) + dv x1); rw [d1.out]⟩
      case measure => simp [intOf]
    · have hv : ([0, (10 * 0 + dv x0), (10 * (10 * 0 + dv x0) + dv x1), (10 * (10 * (10 * 0 + dv x0) + dv x1) + dv x2), (10 * (10 * (10 * (10 * 0 + dv x0) + dv x1) + dv x2) + dv x3)] : List Int).getD 2 0 = (10 * (10 * 0 + dv x0) + dv x1) := rfl
      rw [hv]
      obtain ⟨q, hq⟩ : ∃ q : Int, q = (10 * (10 * 0 + dv x0) + dv x1) := ⟨_, rfl⟩
      have q0 : 0 ≤ q := by rw [hq]; (try simp only [dv]); omega
      have q9 : q ≤ 1000 := by rw [hq]; (try simp only [dv]); omega
      rw [← hq]
      replace hq := Lib.hid hq
      clear hv
      rw [show (((2 : Nat) : Int)) = 2 from rfl]
      go_wp2_with fail
      go_round
      case rel => exact ⟨3, by omega, rfl, by (have hq' := hq.out; subst hq'); show Value.int .i64 (10 * (10 * (10 * 0 + dv x0) + dv x1) + ((x2.toNat : Int) - 48) % 256) = Value.int .i64 (10 * (10 * (10 * 0 + dv x0) + dv x1) + dv x2); rw [d2.out]⟩
      case measure => simp [intOf]
    · have hv : ([0, (10 * 0 + dv x0), (10 * (10 * 0 + dv x0) + dv x1), (10 * (10 * (10 * 0 + dv x0) + dv x1) + dv x2), (10 * (10 * (10 * (10 * 0 + dv x0) + dv x1) + dv x2) + dv x3)] : List Int).getD 3 0 = (10 * (10 * (10 * 0 + dv x0) + dv x1) + dv x2) := rfl
      rw [hv]
      obtain ⟨q, hq⟩ : ∃ q : Int, q = (10 * (10 * (10 * 0 + dv x0) + dv x1) + dv x2) := ⟨_, rfl⟩
      have q0 : 0 ≤ q := by rw [hq]; (try simp only [dv]); omega
      have q9 : q ≤ 10000 := by rw [hq]; (try simp only [dv]); omega
      rw [← hq]
      replace hq := Lib.hid hq
      clear hv
      rw [show (((3 : Nat) : Int)) = 3 from rfl]
      go_wp2_with fail
      go_round
      case rel => exact ⟨4, by omega, rfl, by (have hq' := hq.out; subst hq'); show Value.int .i64 (10 * (10 * (10 * (10 * 0 + dv x0) + dv x1) + dv x2) + ((x3.toNat : Int) - 48) % 256) = Value.int .i64 (10 * (10 * (10 * (10 * 0 + dv x0) + dv x1) + dv x2) + dv x3); rw [d3.out]⟩
      case measure => simp [intOf]
    · go_wp2_with fail
      go_ret
      exact ⟨rfl, rfl⟩
set_option maxHeartbeats 2000000 in
theorem number_6 (x0 x1 x2 x3 x4 x5 : UInt8) (h0 : Dg x0) (h1 : Dg x1) (h2 : Dg x2) (h3 : Dg x3) (h4 : Dg x4) (h5 : Dg x5) (w : World) :
    Calls Try.prog 37 #[.string ⟨⟨[x0, x1, x2, x3, x4, x5]⟩⟩] w fun e w' => e = .returned (.int .i64 (10 * (10 * (10 * (10 * (10 * (10 * 0 + dv x0) + dv x1) + dv x2) + dv x3) + dv x4) + dv x5)) ∧ w' = w := by
  have e0 := dg_wrap h0
  obtain ⟨l0, u0⟩ := h0
  have d0 : Hid (((x0.toNat : Int) - 48) % 256 = dv x0) := Lib.hid (by unfold dv; omega)
  have e1 := dg_wrap h1
  obtain ⟨l1, u1⟩ := h1
  have d1 : Hid (((x1.toNat : Int) - 48) % 256 = dv x1) := Lib.hid (by unfold dv; omega)
  have e2 := dg_wrap h2
  obtain ⟨l2, u2⟩ := h2
  have d2 : Hid (((x2.toNat : Int) - 48) % 256 = dv x2) := Lib.hid (by unfold dv; omega)
  have e3 := dg_wrap h3
  obtain ⟨l3, u3⟩ := h3
  have d3 : Hid (((x3.toNat : Int) - 48) % 256 = dv x3) := Lib.hid (by unfold dv; omega)
  have e4 := dg_wrap h4
  obtain ⟨l4, u4⟩ := h4
  have d4 : Hid (((x4.toNat : Int) - 48) % 256 = dv x4) := Lib.hid (by unfold dv; omega)
  have e5 := dg_wrap h5
  obtain ⟨l5, u5⟩ := h5
  have d5 : Hid (((x5.toNat : Int) - 48) % 256 = dv x5) := Lib.hid (by unfold dv; omega)
  go_enter Try.func37, Try.ntmps37
  go_wp2_with fail
  go_loop [3, 7] (fun s3 s7 => ∃ k : Nat, k ≤ 6 ∧ s7 = .int .i64 k ∧ s3 = .int .i64 ([0, (10 * 0 + dv x0), (10 * (10 * 0 + dv x0) + dv x1), (10 * (10 * (10 * 0 + dv x0) + dv x1) + dv x2), (10 * (10 * (10 * (10 * 0 + dv x0) + dv x1) + dv x2) + dv x3), (10 * (10 * (10 * (10 * (10 * 0 + dv x0) + dv x1) + dv x2) + dv x3) + dv x4), (10 * (10 * (10 * (10 * (10 * (10 * 0 + dv x0) + dv x1) + dv x2) + dv x3) + dv x4) + dv x5)].getD k 0)) (fun _ s7 => (6 - intOf s7).toNat)
  case atStart => exact ⟨0, by omega, rfl, rfl⟩
  case round =>
    obtain ⟨k, hk, rfl, rfl⟩ := hrel
    have hk' : k = 0 ∨ k = 1 ∨ k = 2 ∨ k = 3 ∨ k = 4 ∨ k = 5 ∨ k = 6 := by omega
    rcases hk' with rfl | rfl | rfl | rfl | rfl | rfl | rfl
    · rw [show ([0, (10 * 0 + dv x0), (10 * (10 * 0 + dv x0) + dv x1), (10 * (10 * (10 * 0 + dv x0) + dv x1) + dv x2), (10 * (10 * (10 * (10 * 0 + dv x0) + dv x1) + dv x2) + dv x3), (10 * (10 * (10 * (10 * (10 * 0 + dv x0) + dv x1) + dv x2) + dv x3) + dv x4), (10 * (10 * (10 * (10 * (10 * (10 * 0 + dv x0) + dv x1) + dv x2) + dv x3) + dv x4) + dv x5)] : List Int).getD 0 0 = 0 from rfl, show (((0 : Nat) : Int)) = 0 from rfl]
      go_wp2_with fail
      go_round
      case rel => exact ⟨1, by omega, rfl, by show Value.int .i64 (((x0.toNat : Int) - 48) % 256) = Value.int .i64 (10 * 0 + dv x0); rw [d0.out]; simp⟩
      case measure => simp [intOf]
    · have hv : ([0, (10 * 0 + dv x0), (10 * (10 * 0 + dv x0) + dv x1), (10 * (10 * (10 * 0 + dv x0) + dv x1) + dv x2), (10 * (10 * (10 * (10 * 0 + dv x0) + dv x1) + dv x2) + dv x3), (10 * (10 * (10 * (10 * (10 * 0 + dv x0) + dv x1) + dv x2) + dv x3) + dv x4), (10 * (10 * (10 * (10 * (10 * (10 * 0 + dv x0) + dv x1) + dv x2) + dv x3) + dv x4) + dv x5)] : List Int).getD 1 0 = (10 * 0 + dv x0) := rfl
      rw [hv]
      obtain ⟨q, hq⟩ : ∃ q : Int, q = (10 * 0 + dv x0) := ⟨_, rfl⟩
      have q0 : 0 ≤ q := by rw [hq]; (try simp only [dv]); omega
      have q9 : q ≤ 100 := by rw [hq]; (try simp only [dv]); omega
      rw [← hq]
      replace hq := Lib.hid hq
      clear hv
      rw [show (((1 : Nat) : Int)) = 1 from rfl]
      go_wp2_with fail
      go_round
      case rel => exact ⟨2, by omega, rfl, by (have hq' := hq.out; subst hq'); show Value.int .i64 (10 * (10 * 0 + dv x0) + ((x1.toNat : Int) - 48) % 256) = Value.int .i64 (10 * (10 * 0 + dv x0) + dv x1); rw [d1.out]⟩
      case measure => simp [intOf]
    · have hv : ([0, (10 * 0 + dv x0), (10 * (10 * 0 + dv x0) + dv x1), (10 * (10 * (10 * 0 + dv x0) + dv x1) + dv x2), (10 * (10 * (10 * (10 * 0 + dv x0) + dv x1) + dv x2) + dv x3), (10 * (10 * (10 * (10 * (10 * 0 + dv x0) + dv x1) + dv x2) + dv x3) + dv x4), (10 * (10 * (10 * (10 * (10 * (10 * 0 + dv x0) + dv x1) + dv x2) + dv x3) + dv x4) + dv x5)] : List Int).getD 2 0 = (10 * (10 * 0 + dv x0) + dv x1) := rfl
      rw [hv]
      obtain ⟨q, hq⟩ : ∃ q : Int, q = (10 * (10 * 0 + dv x0) + dv x1) := ⟨_, rfl⟩
      have q0 : 0 ≤ q := by rw [hq]; (try simp only [dv]); omega
      have q9 : q ≤ 1000 := by rw [hq]; (try simp only [dv]); omega
      rw [← hq]
      replace hq := Lib.hid hq
      clear hv
      rw [show (((2 : Nat) : Int)) = 2 from rfl]
      go_wp2_with fail
      go_round
      case rel => exact ⟨3, by omega, rfl, by (have hq' := hq.out; subst hq'); show Value.int .i64 (10 * (10 * (10 * 0 + dv x0) + dv x1) + ((x2.toNat : Int) - 48) % 256) = Value.int .i64 (10 * (10 * (10 * 0 + dv x0) + dv x1) + dv x2); rw [d2.out]⟩
      case measure => simp [intOf]
    · have hv : ([0, (10 * 0 + dv x0), (10 * (10 * 0 + dv x0) + dv x1), (10 * (10 * (10 * 0 + dv x0) + dv x1) + dv x2), (10 * (10 * (10 * (10 * 0 + dv x0) + dv x1) + dv x2) + dv x3), (10 * (10 * (10 * (10 * (10 * 0 + dv x0) + dv x1) + dv x2) + dv x3) + dv x4), (10 * (10 * (10 * (10 * (10 * (10 * 0 + dv x0) + dv x1) + dv x2) + dv x3) + dv x4) + dv x5)] : List Int).getD 3 0 = (10 * (10 * (10 * 0 + dv x0) + dv x1) + dv x2) := rfl
      rw [hv]
      obtain ⟨q, hq⟩ : ∃ q : Int, q = (10 * (10 * (10 * 0 + dv x0) + dv x1) + dv x2) := ⟨_, rfl⟩
      have q0 : 0 ≤ q := by rw [hq]; (try simp only [dv]); omega
      have q9 : q ≤ 10000 := by rw [hq]; (try simp only [dv]); omega
      rw [← hq]
      replace hq := Lib.hid hq
      clear hv
      rw [show (((3 : Nat) : Int)) = 3 from rfl]
      go_wp2_with fail
      go_round
      case rel => exact ⟨4, by omega, rfl, by (have hq' := hq.out; subst hq'); show Value.int .i64 (10 * (10 * (10 * (10 * 0 + dv x0) + dv x1) + dv x2) + ((x3.toNat : Int) - 48) % 256) = Value.int .i64 (10 * (10 * (10 * (10 * 0 + dv x0) + dv x1) + dv x2) + dv x3); rw [d3.out]⟩
      case measure => simp [intOf]
    · have hv : ([0, (10 * 0 + dv x0), (10 * (10 * 0 + dv x0) + dv x1), (10 * (10 * (10 * 0 + dv x0) + dv x1) + dv x2), (10 * (10 * (10 * (10 * 0 + dv x0) + dv x1) + dv x2) + dv x3), (10 * (10 * (10 * (10 * (10 * 0 + dv x0) + dv x1) + dv x2) + dv x3) + dv x4), (10 * (10 * (10 * (10 * (10 * (10 * 0 + dv x0) + dv x1) + dv x2) + dv x3) + dv x4) + dv x5)] : List Int).getD 4 0 = (10 * (10 * (10 * (10 * 0 + dv x0) + dv x1) + dv x2) + dv x3) := rfl
      rw [hv]
      obtain ⟨q, hq⟩ : ∃ q : Int, q = (10 * (10 * (10 * (10 * 0 + dv x0) + dv x1) + dv x2) + dv x3) := ⟨_, rfl⟩
      have q0 : 0 ≤ q := by rw [hq]; (try simp only [dv]); omega
      have q9 : q ≤ 100000 := by rw [hq]; (try simp only [dv]); omega
      rw [← hq]
      replace hq := Lib.hid hq
      clear hv
      rw [show (((4 : Nat) : Int)) = 4 from rfl]
      go_wp2_with fail
      go_round
      case rel => exact ⟨5, by omega, rfl, by (have hq' := hq.out; subst hq'); show Value.int .i64 (10 * (10 * (10 * (10 * (10 * 0 + dv x0) + dv x1) + dv x2) + dv x3) + ((x4.toNat : Int) - 48) % 256) = Value.int .i64 (10 * (10 * (10 * (10 * (10 * 0 + dv x0) + dv x1) + dv x2) + dv x3) + dv x4); rw [d4.out]⟩
      case measure => simp [intOf]
    · have hv : ([0, (10 * 0 + dv x0), (10 * (10 * 0 + dv x0) + dv x1), (10 * (10 * (10 * 0 + dv x0) + dv x1) + dv x2), (10 * (10 * (10 * (10 * 0 + dv x0) + dv x1) + dv x2) + dv x3), (10 * (10 * (10 * (10 * (10 * 0 + dv x0) + dv x1) + dv x2) + dv x3) + dv x4), (10 * (10 * (10 * (10 * (10 * (10 * 0 + dv x0) + dv x1) + dv x2) + dv x3) + dv x4) + dv x5)] : List Int).getD 5 0 = (10 * (10 * (10 * (10 * (10 * 0 + dv x0) + dv x1) + dv x2) + dv x3) + dv x4) := rfl
      rw [hv]
      obtain ⟨q, hq⟩ : ∃ q : Int, q = (10 * (10 * (10 * (10 * (10 * 0 + dv x0) + dv x1) + dv x2) + dv x3) + dv x4) := ⟨_, rfl⟩
      have q0 : 0 ≤ q := by rw [hq]; (try simp only [dv]); omega
      have q9 : q ≤ 1000000 := by rw [hq]; (try simp only [dv]); omega
      rw [← hq]
      replace hq := Lib.hid hq
      clear hv
      rw [show (((5 : Nat) : Int)) = 5 from rfl]
      go_wp2_with fail
      go_round
      case rel => exact ⟨6, by omega, rfl, by (have hq' := hq.out; subst hq'); show Value.int .i64 (10 * (10 * (10 * (10 * (10 * (10 * 0 + dv x0) + dv x1) + dv x2) + dv x3) + dv x4) + ((x5.toNat : Int) - 48) % 256) = Value.int .i64 (10 * (10 * (10 * (10 * (10 * (10 * 0 + dv x0) + dv x1) + dv x2) + dv x3) + dv x4) + dv x5); rw [d5.out]⟩
      case measure => simp [intOf]
    · go_wp2_with fail
      go_ret
      exact ⟨rfl, rfl⟩
set_option maxHeartbeats 4000000 in
set_option maxRecDepth 100000 in
theorem layout_yes (x0 x1 x2 x3 x5 x6 x8 x9 x11 x12 x14 x15 x17 x18 x20 x21 x22 x23 x24 x25 : UInt8) (h0 : Dg x0) (h1 : Dg x1) (h2 : Dg x2) (h3 : Dg x3) (h5 : Dg x5) (h6 : Dg x6) (h8 : Dg x8) (h9 : Dg x9) (h11 : Dg x11) (h12 : Dg x12) (h14 : Dg x14) (h15 : Dg x15) (h17 : Dg x17) (h18 : Dg x18) (h20 : Dg x20) (h21 : Dg x21) (h22 : Dg x22) (h23 : Dg x23) (h24 : Dg x24) (h25 : Dg x25) (w : World) :
    Calls Try.prog 36 #[.string ⟨⟨[x0, x1, x2, x3, 45, x5, x6, 45, x8, x9, 84, x11, x12, 58, x14, x15, 58, x17, x18, 46, x20, x21, x22, x23, x24, x25, 90]⟩⟩] w fun e w' => e = .returned (.bool true) ∧ ∃ q, w' = w.drewN q := by
  obtain ⟨l0, u0⟩ := h0
  obtain ⟨l1, u1⟩ := h1
  obtain ⟨l2, u2⟩ := h2
  obtain ⟨l3, u3⟩ := h3
  obtain ⟨l5, u5⟩ := h5
  obtain ⟨l6, u6⟩ := h6
  obtain ⟨l8, u8⟩ := h8
  obtain ⟨l9, u9⟩ := h9
  obtain ⟨l11, u11⟩ := h11
  obtain ⟨l12, u12⟩ := h12
  obtain ⟨l14, u14⟩ := h14
  obtain ⟨l15, u15⟩ := h15
  obtain ⟨l17, u17⟩ := h17
  obtain ⟨l18, u18⟩ := h18
  obtain ⟨l20, u20⟩ := h20
  obtain ⟨l21, u21⟩ := h21
  obtain ⟨l22, u22⟩ := h22
  obtain ⟨l23, u23⟩ := h23
  obtain ⟨l24, u24⟩ := h24
  obtain ⟨l25, u25⟩ := h25
  go_enter Try.func36, Try.ntmps36
  go_wp2_with fail
  go_loopw [7] (fun s7 wr => ∃ k q : Nat, k ≤ 27 ∧ s7 = .int .i64 k ∧ wr = w.drewN q) (fun s7 _ => (27 - intOf s7).toNat)
  case atStart => exact ⟨0, 0, by omega, rfl, rfl⟩
  case round =>
    obtain ⟨k, q, hk, rfl, rfl⟩ := hrel
    have hk' : k = 0 ∨ k = 1 ∨ k = 2 ∨ k = 3 ∨ k = 4 ∨ k = 5 ∨ k = 6 ∨ k = 7 ∨ k = 8 ∨ k = 9 ∨ k = 10 ∨ k = 11 ∨ k = 12 ∨ k = 13 ∨ k = 14 ∨ k = 15 ∨ k = 16 ∨ k = 17 ∨ k = 18 ∨ k = 19 ∨ k = 20 ∨ k = 21 ∨ k = 22 ∨ k = 23 ∨ k = 24 ∨ k = 25 ∨ k = 26 ∨ k = 27 := by omega
    rcases hk' with rfl | rfl | rfl | rfl | rfl | rfl | rfl | rfl | rfl | rfl | rfl | rfl | rfl | rfl | rfl | rfl | rfl | rfl | rfl | rfl | rfl | rfl | rfl | rfl | rfl | rfl | rfl | rfl
    · rw [show (((0 : Nat) : Int)) = 0 from rfl]
      have t : ∀ h, (⟨⟨[x0, x1, x2, x3, 45, x5, x6, 45, x8, x9, 84, x11, x12, 58, x14, x15, 58, x17, x18, 46, x20, x21, x22, x23, x24, x25, 90]⟩⟩ : ByteArray)[0]'h = x0 := fun _ => rfl
      go_wp2_with fail
      go_roundw
      case rel => exact ⟨1, _, by omega, rfl, by first | rfl | simp⟩
      case measure => simp [intOf]
    · rw [show (((1 : Nat) : Int)) = 1 from rfl]
      have t : ∀ h, (⟨⟨[x0, x1, x2, x3, 45, x5, x6, 45, x8, x9, 84, x11, x12, 58, x14, x15, 58, x17, x18, 46, x20, x21, x22, x23, x24, x25, 90]⟩⟩ : ByteArray)[1]'h = x1 := fun _ => rfl
      go_wp2_with fail
      go_roundw
      case rel => exact ⟨2, _, by omega, rfl, by first | rfl | simp⟩
      case measure => simp [intOf]
    · rw [show (((2 : Nat) : Int)) = 2 from rfl]
      have t : ∀ h, (⟨⟨[x0, x1, x2, x3, 45, x5, x6, 45, x8, x9, 84, x11, x12, 58, x14, x15, 58, x17, x18, 46, x20, x21, x22, x23, x24, x25, 90]⟩⟩ : ByteArray)[2]'h = x2 := fun _ => rfl
      go_wp2_with fail
      go_roundw
      case rel => exact ⟨3, _, by omega, rfl, by first | rfl | simp⟩
      case measure => simp [intOf]
    · rw [show (((3 : Nat) : Int)) = 3 from rfl]
      have t : ∀ h, (⟨⟨[x0, x1, x2, x3, 45, x5, x6, 45, x8, x9, 84, x11, x12, 58, x14, x15, 58, x17, x18, 46, x20, x21, x22, x23, x24, x25, 90]⟩⟩ : ByteArray)[3]'h = x3 := fun _ => rfl
      go_wp2_with fail
      go_roundw
      case rel => exact ⟨4, _, by omega, rfl, by first | rfl | simp⟩
      case measure => simp [intOf]
    · rw [show (((4 : Nat) : Int)) = 4 from rfl]
      have t : ∀ h, (⟨⟨[x0, x1, x2, x3, 45, x5, x6, 45, x8, x9, 84, x11, x12, 58, x14, x15, 58, x17, x18, 46, x20, x21, x22, x23, x24, x25, 90]⟩⟩ : ByteArray)[4]'h = 45 := fun _ => rfl
      go_wp2_with fail
      go_quiet (fail)
      go_wp2_with fail
      go_roundw
      case rel => exact ⟨5, _, by omega, rfl, by first | rfl | simp⟩
      case measure => simp [intOf]
    · rw [show (((5 : Nat) : Int)) = 5 from rfl]
      have t : ∀ h, (⟨⟨[x0, x1, x2, x3, 45, x5, x6, 45, x8, x9, 84, x11, x12, 58, x14, x15, 58, x17, x18, 46, x20, x21, x22, x23, x24, x25, 90]⟩⟩ : ByteArray)[5]'h = x5 := fun _ => rfl
      go_wp2_with fail
      go_roundw
      case rel => exact ⟨6, _, by omega, rfl, by first | rfl | simp⟩
      case measure => simp [intOf]
    · rw [show (((6 : Nat) : Int)) = 6 from rfl]
      have t : ∀ h, (⟨⟨[x0, x1, x2, x3, 45, x5, x6, 45, x8, x9, 84, x11, x12, 58, x14, x15, 58, x17, x18, 46, x20, x21, x22, x23, x24, x25, 90]⟩⟩ : ByteArray)[6]'h = x6 := fun _ => rfl
      go_wp2_with fail
      go_roundw
      case rel => exact ⟨7, _, by omega, rfl, by first | rfl | simp⟩
      case measure => simp [intOf]
    · rw [show (((7 : Nat) : Int)) = 7 from rfl]
      have t : ∀ h, (⟨⟨[x0, x1, x2, x3, 45, x5, x6, 45, x8, x9, 84, x11, x12, 58, x14, x15, 58, x17, x18, 46, x20, x21, x22, x23, x24, x25, 90]⟩⟩ : ByteArray)[7]'h = 45 := fun _ => rfl
      go_wp2_with fail
      go_quiet (fail)
      go_wp2_with fail
      go_roundw
      case rel => exact ⟨8, _, by omega, rfl, by first | rfl | simp⟩
      case measure => simp [intOf]
    · rw [show (((8 : Nat) : Int)) = 8 from rfl]
      have t : ∀ h, (⟨⟨[x0, x1, x2, x3, 45, x5, x6, 45, x8, x9, 84, x11, x12, 58, x14, x15, 58, x17, x18, 46, x20, x21, x22, x23, x24, x25, 90]⟩⟩ : ByteArray)[8]'h = x8 := fun _ => rfl
      go_wp2_with fail
      go_roundw
      case rel => exact ⟨9, _, by omega, rfl, by first | rfl | simp⟩
      case measure => simp [intOf]
    · rw [show (((9 : Nat) : Int)) = 9 from rfl]
      have t : ∀ h, (⟨⟨[x0, x1, x2, x3, 45, x5, x6, 45, x8, x9, 84, x11, x12, 58, x14, x15, 58, x17, x18, 46, x20, x21, x22, x23, x24, x25, 90]⟩⟩ : ByteArray)[9]'h = x9 := fun _ => rfl
      go_wp2_with fail
      go_roundw
      case rel => exact ⟨10, _, by omega, rfl, by first | rfl | simp⟩
      case measure => simp [intOf]
    · rw [show (((10 : Nat) : Int)) = 10 from rfl]
      have t : ∀ h, (⟨⟨[x0, x1, x2, x3, 45, x5, x6, 45, x8, x9, 84, x11, x12, 58, x14, x15, 58, x17, x18, 46, x20, x21, x22, x23, x24, x25, 90]⟩⟩ : ByteArray)[10]'h = 84 := fun _ => rfl
      go_wp2_with fail
      go_quiet (fail)
      go_wp2_with fail
      go_roundw
      case rel => exact ⟨11, _, by omega, rfl, by first | rfl | simp⟩
      case measure => simp [intOf]
    · rw [show (((11 : Nat) : Int)) = 11 from rfl]
      have t : ∀ h, (⟨⟨[x0, x1, x2, x3, 45, x5, x6, 45, x8, x9, 84, x11, x12, 58, x14, x15, 58, x17, x18, 46, x20, x21, x22, x23, x24, x25, 90]⟩⟩ : ByteArray)[11]'h = x11 := fun _ => rfl
      go_wp2_with fail
      go_roundw
      case rel => exact ⟨12, _, by omega, rfl, by first | rfl | simp⟩
      case measure => simp [intOf]
    · rw [show (((12 : Nat) : Int)) = 12 from rfl]
      have t : ∀ h, (⟨⟨[x0, x1, x2, x3, 45, x5, x6, 45, x8, x9, 84, x11, x12, 58, x14, x15, 58, x17, x18, 46, x20, x21, x22, x23, x24, x25, 90]⟩⟩ : ByteArray)[12]'h = x12 := fun _ => rfl
      go_wp2_with fail
      go_roundw
      case rel => exact ⟨13, _, by omega, rfl, by first | rfl | simp⟩
      case measure => simp [intOf]
    · rw [show (((13 : Nat) : Int)) = 13 from rfl]
      have t : ∀ h, (⟨⟨[x0, x1, x2, x3, 45, x5, x6, 45, x8, x9, 84, x11, x12, 58, x14, x15, 58, x17, x18, 46, x20, x21, x22, x23, x24, x25, 90]⟩⟩ : ByteArray)[13]'h = 58 := fun _ => rfl
      go_wp2_with fail
      go_quiet (fail)
      go_wp2_with fail
      go_roundw
      case rel => exact ⟨14, _, by omega, rfl, by first | rfl | simp⟩
      case measure => simp [intOf]
    · rw [show (((14 : Nat) : Int)) = 14 from rfl]
      have t : ∀ h, (⟨⟨[x0, x1, x2, x3, 45, x5, x6, 45, x8, x9, 84, x11, x12, 58, x14, x15, 58, x17, x18, 46, x20, x21, x22, x23, x24, x25, 90]⟩⟩ : ByteArray)[14]'h = x14 := fun _ => rfl
      go_wp2_with fail
      go_roundw
      case rel => exact ⟨15, _, by omega, rfl, by first | rfl | simp⟩
      case measure => simp [intOf]
    · rw [show (((15 : Nat) : Int)) = 15 from rfl]
      have t : ∀ h, (⟨⟨[x0, x1, x2, x3, 45, x5, x6, 45, x8, x9, 84, x11, x12, 58, x14, x15, 58, x17, x18, 46, x20, x21, x22, x23, x24, x25, 90]⟩⟩ : ByteArray)[15]'h = x15 := fun _ => rfl
      go_wp2_with fail
      go_roundw
      case rel => exact ⟨16, _, by omega, rfl, by first | rfl | simp⟩
      case measure => simp [intOf]
    · rw [show (((16 : Nat) : Int)) = 16 from rfl]
      have t : ∀ h, (⟨⟨[x0, x1, x2, x3, 45, x5, x6, 45, x8, x9, 84, x11, x12, 58, x14, x15, 58, x17, x18, 46, x20, x21, x22, x23, x24, x25, 90]⟩⟩ : ByteArray)[16]'h = 58 := fun _ => rfl
      go_wp2_with fail
      go_quiet (fail)
      go_wp2_with fail
      go_roundw
      case rel => exact ⟨17, _, by omega, rfl, by first | rfl | simp⟩
      case measure => simp [intOf]
    · rw [show (((17 : Nat) : Int)) = 17 from rfl]
      have t : ∀ h, (⟨⟨[x0, x1, x2, x3, 45, x5, x6, 45, x8, x9, 84, x11, x12, 58, x14, x15, 58, x17, x18, 46, x20, x21, x22, x23, x24, x25, 90]⟩⟩ : ByteArray)[17]'h = x17 := fun _ => rfl
      go_wp2_with fail
      go_roundw
      case rel => exact ⟨18, _, by omega, rfl, by first | rfl | simp⟩
      case measure => simp [intOf]
    · rw [show (((18 : Nat) : Int)) = 18 from rfl]
      have t : ∀ h, (⟨⟨[x0, x1, x2, x3, 45, x5, x6, 45, x8, x9, 84, x11, x12, 58, x14, x15, 58, x17, x18, 46, x20, x21, x22, x23, x24, x25, 90]⟩⟩ : ByteArray)[18]'h = x18 := fun _ => rfl
      go_wp2_with fail
      go_roundw
      case rel => exact ⟨19, _, by omega, rfl, by first | rfl | simp⟩
      case measure => simp [intOf]
    · rw [show (((19 : Nat) : Int)) = 19 from rfl]
      have t : ∀ h, (⟨⟨[x0, x1, x2, x3, 45, x5, x6, 45, x8, x9, 84, x11, x12, 58, x14, x15, 58, x17, x18, 46, x20, x21, x22, x23, x24, x25, 90]⟩⟩ : ByteArray)[19]'h = 46 := fun _ => rfl
      go_wp2_with fail
      go_quiet (fail)
      go_wp2_with fail
      go_roundw
      case rel => exact ⟨20, _, by omega, rfl, by first | rfl | simp⟩
      case measure => simp [intOf]
    · rw [show (((20 : Nat) : Int)) = 20 from rfl]
      have t : ∀ h, (⟨⟨[x0, x1, x2, x3, 45, x5, x6, 45, x8, x9, 84, x11, x12, 58, x14, x15, 58, x17, x18, 46, x20, x21, x22, x23, x24, x25, 90]⟩⟩ : ByteArray)[20]'h = x20 := fun _ => rfl
      go_wp2_with fail
      go_roundw
      case rel => exact ⟨21, _, by omega, rfl, by first | rfl | simp⟩
      case measure => simp [intOf]
    · rw [show (((21 : Nat) : Int)) = 21 from rfl]
      have t : ∀ h, (⟨⟨[x0, x1, x2, x3, 45, x5, x6, 45, x8, x9, 84, x11, x12, 58, x14, x15, 58, x17, x18, 46, x20, x21, x22, x23, x24, x25, 90]⟩⟩ : ByteArray)[21]'h = x21 := fun _ => rfl
      go_wp2_with fail
      go_roundw
      case rel => exact ⟨22, _, by omega, rfl, by first | rfl | simp⟩
      case measure => simp [intOf]
    · rw [show (((22 : Nat) : Int)) = 22 from rfl]
      have t : ∀ h, (⟨⟨[x0, x1, x2, x3, 45, x5, x6, 45, x8, x9, 84, x11, x12, 58, x14, x15, 58, x17, x18, 46, x20, x21, x22, x23, x24, x25, 90]⟩⟩ : ByteArray)[22]'h = x22 := fun _ => rfl
      go_wp2_with fail
      go_roundw
      case rel => exact ⟨23, _, by omega, rfl, by first | rfl | simp⟩
      case measure => simp [intOf]
    · rw [show (((23 : Nat) : Int)) = 23 from rfl]
      have t : ∀ h, (⟨⟨[x0, x1, x2, x3, 45, x5, x6, 45, x8, x9, 84, x11, x12, 58, x14, x15, 58, x17, x18, 46, x20, x21, x22, x23, x24, x25, 90]⟩⟩ : ByteArray)[23]'h = x23 := fun _ => rfl
      go_wp2_with fail
      go_roundw
      case rel => exact ⟨24, _, by omega, rfl, by first | rfl | simp⟩
      case measure => simp [intOf]
    · rw [show (((24 : Nat) : Int)) = 24 from rfl]
      have t : ∀ h, (⟨⟨[x0, x1, x2, x3, 45, x5, x6, 45, x8, x9, 84, x11, x12, 58, x14, x15, 58, x17, x18, 46, x20, x21, x22, x23, x24, x25, 90]⟩⟩ : ByteArray)[24]'h = x24 := fun _ => rfl
      go_wp2_with fail
      go_roundw
      case rel => exact ⟨25, _, by omega, rfl, by first | rfl | simp⟩
      case measure => simp [intOf]
    · rw [show (((25 : Nat) : Int)) = 25 from rfl]
      have t : ∀ h, (⟨⟨[x0, x1, x2, x3, 45, x5, x6, 45, x8, x9, 84, x11, x12, 58, x14, x15, 58, x17, x18, 46, x20, x21, x22, x23, x24, x25, 90]⟩⟩ : ByteArray)[25]'h = x25 := fun _ => rfl
      go_wp2_with fail
      go_roundw
      case rel => exact ⟨26, _, by omega, rfl, by first | rfl | simp⟩
      case measure => simp [intOf]
    · rw [show (((26 : Nat) : Int)) = 26 from rfl]
      have t : ∀ h, (⟨⟨[x0, x1, x2, x3, 45, x5, x6, 45, x8, x9, 84, x11, x12, 58, x14, x15, 58, x17, x18, 46, x20, x21, x22, x23, x24, x25, 90]⟩⟩ : ByteArray)[26]'h = 90 := fun _ => rfl
      go_wp2_with fail
      go_quiet (fail)
      go_wp2_with fail
      go_roundw
      case rel => exact ⟨27, _, by omega, rfl, by first | rfl | simp⟩
      case measure => simp [intOf]
    · go_wp2_with fail
      go_ret
      exact ⟨rfl, _, rfl⟩
end Utc
end Go.Proofs.Ytnoggdhljijhpaa
