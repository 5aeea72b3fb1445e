/- The walk of CrcBursts. -/
import Derived.Test.YtfebacopbacopaaDoorCrcFlip
namespace Go.Proofs.YtfebacopbacopaaDoor
open Go.RowKit Crc
namespace Laws
theorem word_le4 (A : Nat) (h : A < 4294967296) : Cm.word (Ma.leTo A 4) = A := by
  have e : Ma.leTo A 4 = [Ma.by8 A 0, Ma.by8 A 1, Ma.by8 A 2, Ma.by8 A 3] := by simp [Ma.leTo, List.range_succ]
  rw [e]
  simp only [Cm.word]
  rw [Nat.mul_zero, Nat.xor_zero, Cm.split8 _ _ (Ma.by8 A 2).toNat_lt, Cm.split8 _ _ (Ma.by8 A 1).toNat_lt, Cm.split8 _ _ (Ma.by8 A 0).toNat_lt]
  simp only [Ma.by8_toNat]
  omega
theorem xor_left {a b c : Nat} (h : a ^^^ b = a ^^^ c) : b = c := by
  have : a ^^^ (a ^^^ b) = a ^^^ (a ^^^ c) := by rw [h]
  rwa [← Nat.xor_assoc, Nat.xor_self, Nat.zero_xor, ← Nat.xor_assoc, Nat.xor_self, Nat.zero_xor] at this
/-- Check by the register behind the whole string. -/
theorem chk_reg (l : List UInt8) (h : 4 ≤ l.length) : chk l = true ↔ Cm.reg Cm.ones l = Cm.stN 32 Cm.ones := by
  obtain ⟨a, q, rfl, hq⟩ : ∃ a q, l = a ++ q ∧ q.length = 4 := ⟨l.take (l.length - 4), l.drop (l.length - 4), (List.take_append_drop _ _).symm, by rw [List.length_drop]; omega⟩
  have ht : (a ++ q).take ((a ++ q).length - 4) = a := by
    rw [List.length_append, hq, Nat.add_sub_cancel, List.take_left]
  rw [chk_long h, ht, beq_iff_eq, Cm.reg_append]
  have hS : Cm.updOf 0 a < 4294967296 := Cm.updOf_lt (by decide) a
  have hw : Cm.word q < 4294967296 := by
    have := Cm.word_lt q
    rw [hq] at this
    exact this
  have hr : Cm.reg Cm.ones a < 4294967296 := Cm.reg_lt a (by decide)
  have hu : Cm.updOf 0 a = Cm.reg Cm.ones a ^^^ Cm.ones := by
    unfold Cm.updOf; rw [Nat.zero_xor]
  rw [Cm.reg_word q, hq]
  constructor
  · intro e
    have e1 : Ma.leTo (Cm.updOf 0 a) 4 = q := List.append_cancel_left e
    have e2 : Cm.word q = Cm.reg Cm.ones a ^^^ Cm.ones := by rw [← e1, word_le4 _ hS, hu]
    rw [e2, ← Nat.xor_assoc, Nat.xor_self, Nat.zero_xor]
  · intro e
    have e1 := Cm.stN_eq 32 (Cm.xor_lt hr hw) (by decide) e
    have e2 : Cm.word q = Cm.updOf 0 a := by
      apply xor_left (a := Cm.reg Cm.ones a)
      rw [e1, hu, ← Nat.xor_assoc, Nat.xor_self, Nat.zero_xor]
    have e3 : Ma.leTo (Cm.updOf 0 a) 4 = q := Cm.word_inj _ _ (by rw [Ma.leTo_length, hq]) (by rw [word_le4 _ hS, e2])
    rw [e3]
theorem chk_app (a : List UInt8) : chk (a ++ Ma.leTo (Cm.updOf 0 a) 4) = true := by
  have hl : (Ma.leTo (Cm.updOf 0 a) 4).length = 4 := Ma.leTo_length _ _
  have ht : (a ++ Ma.leTo (Cm.updOf 0 a) 4).take ((a ++ Ma.leTo (Cm.updOf 0 a) 4).length - 4) = a := by
    rw [List.length_append, hl, Nat.add_sub_cancel, List.take_left]
  rw [chk_long (by rw [List.length_append, hl]; omega), ht]
  simp
theorem chk_flip (x : List UInt8) (p m n : Nat) (h4 : 4 ≤ x.length) (hx : chk x = true) (hn : n ≤ 32) (hm : m < 2 ^ n) (hp : p + n ≤ 8 * x.length) : chk (flips x p m n) = (m == 0) := by
  have hm32 : m < 4294967296 := Nat.lt_of_lt_of_le hm (Nat.le_trans (Nat.pow_le_pow_right (by decide) hn) (by decide))
  have hw : Cm.word (flips x p m n) = Cm.word x ^^^ 2 ^ p * m := by rw [flips_word x p m n hp, Nat.mod_eq_of_lt hm]
  have h4' : 4 ≤ (flips x p m n).length := by rw [flips_length]; exact h4
  have hr : Cm.reg Cm.ones (flips x p m n) = Cm.reg Cm.ones x ^^^ Cm.stN (8 * x.length - p) m := by
    rw [Cm.reg_word, Cm.reg_word, hw, flips_length, ← Nat.xor_assoc, Cm.stN_xor _ (Cm.ones ^^^ Cm.word x)]
    congr 1
    have e : 8 * x.length = p + (8 * x.length - p) := by omega
    rw [e, Cm.stN_add, Cm.stN_pow]
    congr 1; omega
  rw [Bool.eq_iff_iff, chk_reg _ h4', hr, beq_iff_eq]
  rw [chk_reg _ h4] at hx
  rw [hx]
  constructor
  · intro e
    have : Cm.stN (8 * x.length - p) m = 0 := by
      apply xor_left (a := Cm.stN 32 Cm.ones)
      rw [e, Nat.xor_zero]
    exact Cm.stN_inj _ hm32 this
  · intro e
    rw [e, Cm.stN_zero, Nat.xor_zero]
theorem flips_back (x : List UInt8) (p m n : Nat) (hp : p + n ≤ 8 * x.length) : flips (flips x p m n) p m n = x := by
  apply Cm.word_inj
  · rw [flips_length, flips_length]
  · rw [flips_word _ _ _ _ (by rw [flips_length]; exact hp), flips_word x p m n hp, Nat.xor_assoc, Nat.xor_self, Nat.xor_zero]
theorem ba_ext {a b : ByteArray} (h : a.data.toList = b.data.toList) : a = b := by
  have : a.data = b.data := Array.toList_inj.1 h
  cases a; cases b; simp_all
end Laws
end Go.Proofs.YtfebacopbacopaaDoor
