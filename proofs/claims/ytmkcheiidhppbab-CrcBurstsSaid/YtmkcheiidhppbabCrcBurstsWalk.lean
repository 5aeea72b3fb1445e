/- The walk of CrcBursts. -/
import Derived.Test.YtmkcheiidhppbabCrcFlip
namespace Go.Proofs.Ytmkcheiidhppbab
open Go.RowKit Crc
namespace Laws
theorem word_le4 (A : Nat) (h : A < 4294967296) : Cm.word (Ma.leTo A 4) = A := by
  have e : Ma.leTo A 4 = [Ma.by8 A 0, Ma.by8 A 1, Ma.by8 A 2, Ma.by8 A 3] := by simp [Ma.leTo, List.range_succ]
  rw [e]
  simp only [Cm.word]
  rw [Nat.mul_zero, Nat.xor_zero, Cm.split8 _ _ (Ma.by8 A 2).toNat_lt, Cm.split8 _ _ (Ma.by8 A 1).toNat_lt, Cm.split8 _ _ (Ma.by8 A 0).toNat_lt]
  simp only [Ma.by8_toNat]
  omega
theorem xor_left {a b c : Nat} (h : a ^^^ b = a ^^^ c) : b = c := by
  have : a ^^^ (a ^^^ b) = a ^^^ (a ^^^ c) := by rw [h]
  rwa [← Nat.xor_assoc, Nat.xor_self, Nat.zero_xor, ← Nat.xor_assoc, Nat.xor_self, Nat.zero_xor] at this
/-- Check by the register behind the whole string. -/
theorem chk_reg (l : List UInt8) (h : 4 ≤ l.length) : chk l = true ↔ Cm.reg Cm.ones l = Cm.stN 32 Cm.ones := by
  obtain ⟨a, q, rfl, hq⟩ : ∃ a q, l = a ++ q ∧ q.length = 4 := ⟨l.take (l.length - 4), l.drop (l.length - 4), (List.take_append_drop _ _).symm, by rw [List.length_drop]; omega⟩
  have ht : (a ++ q).take ((a ++ q).length - 4) = a := by
    rw [List.length_append, hq, Nat.add_sub_cancel, List.take_left]
  rw [chk_long h, ht, beq_iff_eq, Cm.reg_append]
  have hS : Cm.updOf 0 a < 4294967296 := Cm.updOf_lt (by decide) a
  have hw : Cm.word q < 4294967296 := by
    have := Cm.word_lt q
    rw [hq] at this
    exact this
  have hr : Cm.reg Cm.ones a < 4294967296 := Cm.reg_lt a (by decide)
  have hu : Cm.updOf 0 a = Cm.reg Cm.ones a ^^^ Cm.ones := by
    unfold Cm.updOf; rw [Nat.zero_xor]
  rw [Cm.reg_word q, hq]
  constructor
  · intro e
    have e1 : Ma.leTo (Cm.updOf 0 a) 4 = q := List.append_cancel_left e
    have e2 : Cm.word q = Cm.reg Cm.ones a ^^^ Cm.ones := by rw [← e1, word_le4 _ hS, hu]
    rw [e2, ← Nat.xor_assoc, Nat.xor_self, Nat.zero_xor]
  · intro e
    have e1 := Cm.stN_eq 32 (Cm.xor_lt hr hw) (by decide) e
    have e2 : Cm.word q = Cm.updOf 0 a := by
      apply xor_left (a := Cm.reg Cm.ones a)
      rw [e1, hu, ← Nat.xor_assoc, Nat.xor_self, Nat.zero_xor]
    have e3 : Ma.leTo (Cm.updOf 0 a) 4 = q := Cm.word_inj _ _ (by rw [Ma.leTo_length, hq]) (by rw [word_le4 _ hS, e2])
    rw [e3]
theorem chk_app (a : List UInt8) : chk (a ++ Ma.leTo (Cm.updOf 0 a) 4) = true := by
  have hl : (Ma.leTo (Cm.updOf 0 a) 4).length = 4 := Ma.leTo_length _ _
  have ht : (a ++ Ma.leTo (Cm.updOf 0 a) 4).take ((a ++ Ma.leTo (Cm.updOf 0 a) 4).length - 4) = a := by
    rw [List.length_append, hl, Nat.add_sub_cancel, List.take_left]
  rw [chk_long (by rw [List.length_append, hl]; omega), ht]
  simp
theorem chk_flip (x : List UInt8) (p m n : Nat) (h4 : 4 ≤ x.length) (hx : chk x = true) (hn : n ≤ 32) (hm : m < 2 ^ n) (hp : p + n ≤ 8 * x.length) : chk (flips x p m n) = (m == 0) := by
  have hm32 : m < 4294967296 := Nat.lt_of_lt_of_le hm (Nat.le_trans (Nat.pow_le_pow_right (by decide) hn) (by decide))
  have hw : Cm.word (flips x p m n) = Cm.word x ^^^ 2 ^ p * m := by rw [flips_word x p m n hp, Nat.mod_eq_of_lt hm]
  have h4' : 4 ≤ (flips x p m n).length := by rw [flips_length]; exact h4
  have hr : Cm.reg Cm.ones (flips x p m n) = Cm.reg Cm.ones x ^^^ Cm.stN (8 * x.length - p) m := by
    rw [Cm.reg_word, Cm.reg_word, hw, flips_length, ← Nat.xor_assoc, Cm.stN_xor _ (Cm.ones ^^^ Cm.word x)]
    congr 1
    have e : 8 * x.length = p + (8 * x.length - p) := by omega
    rw [e, Cm.stN_add, Cm.stN_pow]
    congr 1; omega
  rw [Bool.eq_iff_iff, chk_reg _ h4', hr, beq_iff_eq]
  rw [chk_reg _ h4] at hx
  rw [hx]
  constructor
  · intro e
    have : Cm.stN (8 * x.length - p) m = 0 := by
      apply xor_left (a := Cm.stN 32 Cm.ones)
      rw [e, Nat.xor_zero]
    exact Cm.stN_inj _ hm32 this
  · intro e
    rw [e, Cm.stN_zero, Nat.xor_zero]
theorem flips_back (x : List UInt8) (p m n : Nat) (hp : p + n ≤ 8 * x.length) : flips (flips x p m n) p m n = x := by
  apply Cm.word_inj
  · rw [flips_length, flips_length]
  · rw [flips_word _ _ _ _ (by rw [flips_length]; exact hp), flips_word x p m n hp, Nat.xor_assoc, Nat.xor_self, Nat.xor_zero]
theorem ba_ext {a b : ByteArray} (h : a.data.toList = b.data.toList) : a = b := by
  have : a.data = b.data := Array.toList_inj.1 h
  cases a; cases b; simp_all
set_option maxHeartbeats 800000 in
set_option maxRecDepth 100000 in
theorem crcBursts_walk (a0 : ByteArray) (a1 a2 a3 : Int) (w0 : a0.size ≤ 140737488351232) (w1 : (Lit.int .u16 a1).wf = true) (w2 : (Lit.int .u32 a2).wf = true) (w3 : (Lit.int .u8 a3).wf = true) (w : World) :
    Calls Try.prog 6 #[.string a0, .int .u16 a1, .int .u32 a2, .int .u8 a3] w fun e w' => e = .returned (.bool true) ∧ Below w.heap.size w w' := by
  obtain ⟨u1, u1'⟩ := Ma.wf_u16 w1
  obtain ⟨u2, u2'⟩ := Ma.wf_u32 w2
  obtain ⟨u3, u3'⟩ := Ma.wf_u8 w3
  clear w1 w2 w3
  by_cases hl : 200 < a0.size
  · go_enter Try.func6, Try.ntmps6
    go_wp2_with (go_at_call 16; refine (sane_any _).mono ?_; rintro e w1 ⟨rfl, hb⟩)
    go_ret
    exact ⟨rfl, hb⟩
  · obtain ⟨n, hn⟩ : ∃ n : Nat, (n : Int) = 1 + a3 % 32 := ⟨(1 + a3 % 32).toNat, by omega⟩
    have n1 : 1 ≤ n := by omega
    have n32 : n ≤ 32 := by omega
    obtain ⟨m, hm⟩ : ∃ m : Nat, m = a2.toNat % 2 ^ n := ⟨_, rfl⟩
    have hml : m < 2 ^ n := by rw [hm]; exact Nat.mod_lt _ (Nat.two_pow_pos n)
    have em : bits .and .i64 a2 (2 ^ (1 + a3 % 32).toNat - 1) = (m : Int) := by
      rw [show (1 + a3 % 32).toNat = n by omega, Ma.and_mask a2 n (by omega), hm]
      obtain ⟨A, rfl⟩ := Int.eq_ofNat_of_zero_le u2
      simp
    obtain ⟨p, hp⟩ : ∃ p : Nat, (p : Int) = a1 % (8 * (a0.size : Int) + 32 - (1 + a3 % 32) + 1) := ⟨(a1 % (8 * (a0.size : Int) + 32 - (1 + a3 % 32) + 1)).toNat, Int.toNat_of_nonneg (Int.emod_nonneg _ (by omega))⟩
    have hpl : p + n ≤ 8 * (a0.size + 4) := by
      have := Int.emod_lt_of_pos a1 (show 0 < 8 * (a0.size : Int) + 32 - (1 + a3 % 32) + 1 by omega)
      rw [← hp] at this
      omega
    obtain ⟨x, hx⟩ : ∃ x, x = Ma.cat a0 (Ma.leTo (Cm.updOf 0 a0.data.toList) 4) := ⟨_, rfl⟩
    have xl : x.data.toList.length = a0.size + 4 := by rw [hx, Ma.cat_toList, List.length_append, Ma.leTo_length]; simp
    have xs : x.size = a0.size + 4 := by rw [← xl]; simp
    have cx : chk x.data.toList = true := by rw [hx, Ma.cat_toList]; exact chk_app _
    obtain ⟨y, hy⟩ : ∃ y, y = flipS x p m n := ⟨_, rfl⟩
    have yl : y.data.toList = flips x.data.toList p m n := by rw [hy]; exact flipS_list _ _ _ _
    have ys : y.size = a0.size + 4 := by
      have : y.data.toList.length = y.size := by simp
      rw [← this, yl, flips_length, xl]
    have cy : chk y.data.toList = ((m : Int) == 0) := by
      rw [yl, chk_flip _ p m n (by omega) cx n32 hml (by omega), Bool.eq_iff_iff, beq_iff_eq, beq_iff_eq]; omega
    have hz : flipS y p m n = x := ba_ext (by rw [flipS_list, yl]; exact flips_back _ _ _ _ (by omega))
    have A1 : Hid (∀ w, Calls Try.prog 23 #[.string a0] w fun e w' => e = .returned (.string x) ∧ Below w.heap.size w w') := by rw [hx]; exact fun w => append_any a0 w (by omega)
    have hmi : (m : Int) ≤ 2 ^ n - 1 := by
      have : (m : Int) < ((2 ^ n : Nat) : Int) := by exact_mod_cast hml
      have e : ((2 ^ n : Nat) : Int) = 2 ^ n := by simp
      omega
    have F1 : Hid (∀ w, Calls Try.prog 19 #[.string x, .int .i64 p, .int .i64 (1 + a3 % 32), .int .i64 m] w fun e w' => e = .returned (.tuple #[.string y, .int .i64 0]) ∧ Below w.heap.size w w') := by
      rw [← hn, hy]; exact fun w => flip_ok x p n m w (by omega) n1 n32 hmi (by omega)
    have F2 : Hid (∀ w, Calls Try.prog 19 #[.string y, .int .i64 p, .int .i64 (1 + a3 % 32), .int .i64 m] w fun e w' => e = .returned (.tuple #[.string x, .int .i64 0]) ∧ Below w.heap.size w w') := by
      intro w
      have h := flip_ok y p n m w (by omega) n1 n32 hmi (by omega)
      rw [hz, hn] at h
      exact h
    have C1 : Hid (∀ w, Calls Try.prog 25 #[.string x] w fun e w' => e = .returned (.bool true) ∧ Below w.heap.size w w') := by rw [← cx]; exact fun w => check_any x w (by omega)
    have C2 : Hid (∀ w, Calls Try.prog 25 #[.string y] w fun e w' => e = .returned (.bool ((m : Int) == 0)) ∧ Below w.heap.size w w') := by rw [← cy]; exact fun w => check_any y w (by omega)
    obtain ⟨M, hM⟩ : ∃ M : Int, M = (m : Int) := ⟨_, rfl⟩
    obtain ⟨Q, hQ⟩ : ∃ Q : Int, Q = (p : Int) := ⟨_, rfl⟩
    rw [← hM] at em F1 F2 C2
    rw [← hQ] at hp F1 F2
    replace hp := hp.symm
    obtain ⟨t1, t2⟩ := Ma.pow_bd (1 + a3 % 32).toNat 32 (by omega)
    replace t2 : (2 : Int) ^ (1 + a3 % 32).toNat ≤ 8589934592 := Int.le_trans t2 (by decide)
    clear hm hml hpl hx xl xs cx hy yl ys cy hz hmi hM hQ n1 n32 hn
    have hd : decide (200 < (a0.size : Int)) = false := by simp; omega
    go_enter Try.func6, Try.ntmps6
    go_wp2_with (first | (go_at_call 23; with_reducible refine (A1.out _).mono ?_; rintro e w1 ⟨rfl, hb⟩) | (go_at_call 19; (first | (with_reducible refine (F1.out _).mono ?_) | (with_reducible refine (F2.out _).mono ?_)); rintro e w1 ⟨rfl, hb⟩) | (go_at_call 25; (first | (with_reducible refine (C1.out _).mono ?_) | (with_reducible refine (C2.out _).mono ?_)); rintro e w1 ⟨rfl, hb⟩) | (go_at_call 16; refine (sane_any _).mono ?_; rintro e w1 ⟨rfl, hb⟩))
    go_ret
    exact ⟨rfl, by repeat (first | exact Below.refl _ _ | assumption | refine Buf.then_ ?_ (by assumption))⟩
end Laws
end Go.Proofs.Ytmkcheiidhppbab
