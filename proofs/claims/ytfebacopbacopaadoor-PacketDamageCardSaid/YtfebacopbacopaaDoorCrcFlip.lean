/- Contracts of crc.Flip. -/
import Derived.Test.YtfebacopbacopaaDoorCrcApp
import Derived.RegionTactic
import Derived.BigRegion
import Derived.StillTailTactics
namespace Go.Proofs.YtfebacopbacopaaDoor
open Go.RowKit
namespace Crc
/-- The string with the bits of a mask changed, up to the mask's bit k. -/
def flips (l : List UInt8) (p m : Nat) : Nat → List UInt8
  | 0 => l
  | k + 1 => if m / 2 ^ k % 2 = 1 then Cm.flipL (flips l p m k) (p + k) else flips l p m k
theorem flips_succ (l : List UInt8) (p m k : Nat) : flips l p m (k + 1) = if m / 2 ^ k % 2 = 1 then Cm.flipL (flips l p m k) (p + k) else flips l p m k := rfl
theorem flips_length (l : List UInt8) (p m k : Nat) : (flips l p m k).length = l.length := by
  induction k with
  | zero => rfl
  | succ k ih => rw [flips_succ]; split <;> simp [Cm.flipL_length, ih]
theorem flips_word (l : List UInt8) (p m k : Nat) (h : p + k ≤ 8 * l.length) : Cm.word (flips l p m k) = Cm.word l ^^^ 2 ^ p * (m % 2 ^ k) := by
  induction k with
  | zero => simp [flips, Nat.mod_one]
  | succ k ih =>
    rw [Cm.mask_step, Cm.mul_xor, ← Nat.xor_assoc, ← ih (by omega), flips_succ]
    split
    · rename_i h1
      rw [Cm.flipL_word _ _ (by rw [flips_length]; omega), h1, Nat.mul_one, Nat.pow_add]
    · rename_i h1
      have h0 : m / 2 ^ k % 2 = 0 := by omega
      rw [h0, Nat.mul_zero, Nat.mul_zero, Nat.xor_zero]
def flipS (s : ByteArray) (p m n : Nat) : ByteArray := ⟨(flips s.data.toList p m n).toArray⟩
theorem flipS_list (s : ByteArray) (p m n : Nat) : (flipS s p m n).data.toList = flips s.data.toList p m n := by simp [flipS]
theorem xor_bit (b : UInt8) (r : Nat) (h : r < 8) : bits .xor .u8 (b.toNat : Int) (2 ^ r % 256) = ((b ^^^ UInt8.ofNat (2 ^ r)).toNat : Int) := by
  have h2 : 2 ^ r < 2 ^ 8 := Nat.pow_lt_pow_right (by decide) h
  have e : ((2 : Int) ^ r % 256) = ((2 ^ r : Nat) : Int) := by
    rw [show ((2 : Int) ^ r) = ((2 ^ r : Nat) : Int) by simp]
    generalize 2 ^ r = y at h2
    omega
  rw [e, u8_x _ _ b.toNat_lt h2, UInt8.toNat_xor]
  congr 2
  simp; omega
theorem ofNat_bit (r : Nat) : (UInt8.ofNat (2 ^ r)).toNat = 2 ^ r % 256 := by simp
theorem bvs_set (l : List UInt8) (q : Nat) (b : UInt8) : (bvs l).set q (.int .u8 b.toNat) = bvs (l.set q b) := by simp [bvs, List.map_set]
end Crc
end Go.Proofs.YtfebacopbacopaaDoor
