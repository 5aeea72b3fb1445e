/- Contracts of crc.Flip. -/
import Derived.Test.YtmkcheiidhppbabCrcApp
import Derived.RegionTactic
import Derived.BigRegion
import Derived.StillTailTactics
namespace Go.Proofs.Ytmkcheiidhppbab
open Go.RowKit
namespace Crc
/-- The string with the bits of a mask changed, up to the mask's bit k. -/
def flips (l : List UInt8) (p m : Nat) : Nat → List UInt8
  | 0 => l
  | k + 1 => if m / 2 ^ k % 2 = 1 then Cm.flipL (flips l p m k) (p + k) else flips l p m k
theorem flips_succ (l : List UInt8) (p m k : Nat) : flips l p m (k + 1) = if m / 2 ^ k % 2 = 1 then Cm.flipL (flips l p m k) (p + k) else flips l p m k := rfl
theorem flips_length (l : List UInt8) (p m k : Nat) : (flips l p m k).length = l.length := by
  induction k with
  | zero => rfl
  | succ k ih => rw [flips_succ]; split <;> simp [Cm.flipL_length, ih]
theorem flips_word (l : List UInt8) (p m k : Nat) (h : p + k ≤ 8 * l.length) : Cm.word (flips l p m k) = Cm.word l ^^^ 2 ^ p * (m % 2 ^ k) := by
  induction k with
  | zero => simp [flips, Nat.mod_one]
  | succ k ih =>
    rw [Cm.mask_step, Cm.mul_xor, ← Nat.xor_assoc, ← ih (by omega), flips_succ]
    split
    · rename_i h1
      rw [Cm.flipL_word _ _ (by rw [flips_length]; omega), h1, Nat.mul_one, Nat.pow_add]
    · rename_i h1
      have h0 : m / 2 ^ k % 2 = 0 := by omega
      rw [h0, Nat.mul_zero, Nat.mul_zero, Nat.xor_zero]
def flipS (s : ByteArray) (p m n : Nat) : ByteArray := ⟨(flips s.data.toList p m n).toArray⟩
theorem flipS_list (s : ByteArray) (p m n : Nat) : (flipS s p m n).data.toList = flips s.data.toList p m n := by simp [flipS]
theorem flip_rng (s : ByteArray) (p n m : Int) (w : World) (h : n < 1 ∨ 32 < n ∨ p < 0 ∨ m < 0 ∨ 2 ^ n.toNat ≤ m) :
    Calls Try.prog 19 #[.string s, .int .i64 p, .int .i64 n, .int .i64 m] w fun e w' => e = .returned (.tuple #[.string ByteArray.empty, .int .i64 2]) ∧ ∃ m, w' = w.drewN m := by
  by_cases c1 : n < 1
  · clear h
    go_enter Try.func19, Try.ntmps19
    go_wp2_with fail
    go_ret2
    exact ⟨rfl, 0, rfl⟩
  · by_cases c2 : 32 < n
    · clear h
      go_enter Try.func19, Try.ntmps19
      go_wp2_with fail
      go_ret2
      exact ⟨rfl, 0, rfl⟩
    · by_cases c3 : p < 0
      · clear h
        go_enter Try.func19, Try.ntmps19
        go_wp2_with fail
        go_ret2
        exact ⟨rfl, 0, rfl⟩
      · by_cases c4 : m < 0
        · clear h
          go_enter Try.func19, Try.ntmps19
          go_wp2_with fail
          go_ret2
          exact ⟨rfl, 0, rfl⟩
        · have c5 : 2 ^ n.toNat ≤ m := by omega
          obtain ⟨p1, p2⟩ := Ma.pow_bd n.toNat 32 (by omega)
          have p2 : (2 : Int) ^ n.toNat ≤ 4294967296 := p2
          have c6 : 2 ^ n.toNat - 1 < m := by omega
          clear h
          go_enter Try.func19, Try.ntmps19
          go_wp2_with fail
          go_ret2
          exact ⟨rfl, 0, rfl⟩
theorem flip_trunc (s : ByteArray) (p n m : Int) (w : World) (hs : s.size ≤ 1000000) (h1 : 1 ≤ n) (h2 : n ≤ 32) (h3 : 0 ≤ p) (h4 : 0 ≤ m) (h5 : m < 2 ^ n.toNat) (h : 8 * (s.size : Int) - n < p) :
    Calls Try.prog 19 #[.string s, .int .i64 p, .int .i64 n, .int .i64 m] w fun e w' => e = .returned (.tuple #[.string ByteArray.empty, .int .i64 4]) ∧ ∃ m, w' = w.drewN m := by
  obtain ⟨p1, p2⟩ := Ma.pow_bd n.toNat 32 (by omega)
  have p2 : (2 : Int) ^ n.toNat ≤ 4294967296 := p2
  have c5 : m ≤ 2 ^ n.toNat - 1 := by omega
  clear h5
  go_enter Try.func19, Try.ntmps19
  go_wp2_with fail
  go_ret2
  exact ⟨rfl, 0, rfl⟩
theorem xor_bit (b : UInt8) (r : Nat) (h : r < 8) : bits .xor .u8 (b.toNat : Int) (2 ^ r % 256) = ((b ^^^ UInt8.ofNat (2 ^ r)).toNat : Int) := by
  have h2 : 2 ^ r < 2 ^ 8 := Nat.pow_lt_pow_right (by decide) h
  have e : ((2 : Int) ^ r % 256) = ((2 ^ r : Nat) : Int) := by
    rw [show ((2 : Int) ^ r) = ((2 ^ r : Nat) : Int) by simp]
    generalize 2 ^ r = y at h2
    omega
  rw [e, u8_x _ _ b.toNat_lt h2, UInt8.toNat_xor]
  congr 2
  simp; omega
theorem ofNat_bit (r : Nat) : (UInt8.ofNat (2 ^ r)).toNat = 2 ^ r % 256 := by simp
theorem bvs_set (l : List UInt8) (q : Nat) (b : UInt8) : (bvs l).set q (.int .u8 b.toNat) = bvs (l.set q b) := by simp [bvs, List.map_set]
set_option maxHeartbeats 400000 in
set_option maxRecDepth 100000 in
theorem flip_ok (s : ByteArray) (p n : Nat) (m : Nat) (w : World) (hs : s.size ≤ 1000000) (h1 : 1 ≤ n) (h2 : n ≤ 32) (h5 : (m : Int) ≤ 2 ^ n - 1) (h : p + n ≤ 8 * s.size) :
    Calls Try.prog 19 #[.string s, .int .i64 p, .int .i64 n, .int .i64 m] w fun e w' => e = .returned (.tuple #[.string (flipS s p m n), .int .i64 0]) ∧ Below w.heap.size w w' := by
  obtain ⟨p1, p2⟩ := Ma.pow_bd n 32 (by omega)
  have p2 : (2 : Int) ^ n ≤ 4294967296 := p2
  have d1 : decide ((n : Int) < 1) = false := by simp; omega
  have d2 : decide (32 < (n : Int)) = false := by simp; omega
  have d3 : decide ((p : Int) < 0) = false := by simp
  have d4 : decide ((m : Int) < 0) = false := by simp
  have d5 : decide (2 ^ n - 1 < (m : Int)) = false := by simp; omega
  have d6 : decide (8 * (s.size : Int) - n < p) = false := by simp; omega
  go_enter Try.func19, Try.ntmps19
  go_wp2_with (refine Buf.wpList_bytes rfl _ 9 45 5 rfl Try.underlying9 Try.underlying45 Try.underlying5 s rfl (by unfold maxLen; omega) ?_; intro v1 w1 hown hbel)
  have hown0 : Buf.Own w.heap.size w1 v1 (bvs (flips s.data.toList p m 0)) := hown
  have hl0 : (bvs (flips s.data.toList p m 0)).length = s.size := by rw [bvs, List.length_map, flips_length]; simp
  obtain ⟨g, cap, hv, hg1, _, _, _⟩ := hown0.parts (by omega)
  rw [hl0] at hv
  rw [hv] at hown0 ⊢
  clear hv hl0 hown
  go_loopw [43] (fun i wr => ∃ k : Nat, k ≤ n ∧ i = .int .i64 k ∧ Buf.Own w.heap.size wr (.slice (some ⟨g, 0, none⟩) s.size cap) (bvs (flips s.data.toList p m k)) ∧ Below w.heap.size w wr) (fun i _ => n - (intOf i).toNat)
  case atStart => exact ⟨0, by omega, rfl, hown0, hbel⟩
  case round =>
    obtain ⟨k, hk, rfl, hown, hb⟩ := hrel
    clear hown0
    have hlen : (bvs (flips s.data.toList p m k)).length = s.size := by rw [bvs, List.length_map, flips_length]; simp
    by_cases hlt : k < n
    · have e1 : bits .and .i64 ((m : Int) / 2 ^ k) 1 = ((m / 2 ^ k % 2 : Nat) : Int) := by
        have := Ma.and_mask ((m : Int) / 2 ^ k) 1 (by decide)
        refine this.trans ?_
        simp
      by_cases hbit : m / 2 ^ k % 2 = 1
      · rw [hbit] at e1
        have hq : (p + k) / 8 < (bvs (flips s.data.toList p m k)).length := by omega
        obtain ⟨g', cap', hv, _, _, hcell, hfree⟩ := hown.parts (by omega)
        injection hv with hv1 hv2 hv3
        injection hv1 with hv1
        injection hv1 with hv1
        subst hv1
        have hq' : (p + k) / 8 < (flips s.data.toList p m k).length := by rw [flips_length]; simp; omega
        obtain ⟨b, hbb⟩ : ∃ b, b = (flips s.data.toList p m k).getD ((p + k) / 8) 0 := ⟨_, rfl⟩
        have hc : wr.cell? ⟨g, (p + k) / 8, none⟩ = some (.int .u8 (b.toNat : Int)) := by
          rw [hcell _ hq, hbb]; simp [bvs, List.getD, hq']
        have hf := hfree _ hq
        have e2 := xor_bit b ((p + k) % 8) (Nat.mod_lt _ (by decide))
        have HS : Hid (flips s.data.toList p m (k + 1) = (flips s.data.toList p m k).set ((p + k) / 8) (b ^^^ UInt8.ofNat (2 ^ ((p + k) % 8)))) := by
          show _ = _
          rw [flips_succ, if_pos hbit, hbb]; rfl
        clear hcell hfree hv2 hv3 hbb hq hq' hbit
        go_wp2_with fail
        go_region
        go_wp2
        go_roundw
        case rel => exact ⟨k + 1, by omega, by go_num, by rw [HS.out, ← bvs_set, UInt8.toNat_xor, ofNat_bit]; exact (hown.store _ _).drew, (hb.setCell hg1 _).drew⟩
        case measure => simp [intOf]; omega
      · have hz : m / 2 ^ k % 2 = 0 := by omega
        rw [hz] at e1
        have Hz := Lib.hid hz
        clear hbit hz
        go_wp2
        go_roundw
        case rel => exact ⟨k + 1, by omega, by go_num, by rw [flips_succ, if_neg (by rw [Hz.out]; decide)]; exact hown, hb⟩
        case measure => simp [intOf]; omega
    · obtain rfl : k = n := by omega
      go_wp2_with (refine Buf.wpList_back_as rfl _ 45 9 5 rfl Try.underlying45 Try.underlying5 Try.underlying9 rfl _ hown _ (flipS_list s p m _) ?_)
      go_ret2
      exact ⟨rfl, hb⟩
end Crc
end Go.Proofs.Ytmkcheiidhppbab
