/- The walk of CrcShort. -/
import Derived.Test.YtmkcheiidhppbabCrcApp
namespace Go.Proofs.Ytmkcheiidhppbab
open Go.RowKit Crc
namespace Laws
/-- The bytes of a word, the least significant one first, and the string of them. -/
def str4 (A : Nat) : ByteArray := Ma.cat ⟨#[]⟩ (Ma.leTo A 4)
theorem str4_list (A : Nat) : (str4 A).data.toList = Ma.leTo A 4 := by simp [str4, Ma.cat]
theorem cells4 (A : Nat) (h : A < 4294967296) : #[Value.int .u8 ((A : Int) % 256), Value.int .u8 ((A : Int) / 256 % 256), Value.int .u8 ((A : Int) / 65536 % 256), Value.int .u8 ((A : Int) / 16777216)] = ((Ma.leTo A 4).map fun b => Value.int .u8 b.toNat).toArray := by
  have e3 : (A : Int) / 16777216 = (A : Int) / 16777216 % 256 := by omega
  rw [e3]
  simp [Ma.leTo, List.range_succ, Ma.by8_toNat]
theorem word4 (A : Nat) (h : A < 4294967296) : Cm.word (Ma.leTo A 4) = A := by
  have e : Ma.leTo A 4 = [Ma.by8 A 0, Ma.by8 A 1, Ma.by8 A 2, Ma.by8 A 3] := by simp [Ma.leTo, List.range_succ]
  rw [e]
  simp only [Cm.word]
  rw [Nat.mul_zero, Nat.xor_zero, Cm.split8 _ _ (Ma.by8 A 2).toNat_lt, Cm.split8 _ _ (Ma.by8 A 1).toNat_lt, Cm.split8 _ _ (Ma.by8 A 0).toNat_lt]
  simp only [Ma.by8_toNat]
  omega
theorem word2 (A : Nat) : Cm.word ((Ma.leTo A 4).take 2) = A % 65536 := by
  have e : (Ma.leTo A 4).take 2 = [Ma.by8 A 0, Ma.by8 A 1] := by simp [Ma.leTo, List.range_succ]
  rw [e]
  simp only [Cm.word]
  rw [Nat.mul_zero, Nat.xor_zero, Cm.split8 _ _ (Ma.by8 A 0).toNat_lt]
  simp only [Ma.by8_toNat]
  omega
theorem sums_eq (l k : List UInt8) (hl : l.length = k.length) (h4 : l.length ≤ 4) : (Cm.updOf 0 l = Cm.updOf 0 k) ↔ l = k := by
  constructor
  · intro h
    have h1 : Cm.reg (0 ^^^ Cm.ones) l = Cm.reg (0 ^^^ Cm.ones) k := by
      have : (Cm.updOf 0 l) ^^^ Cm.ones = (Cm.updOf 0 k) ^^^ Cm.ones := by rw [h]
      unfold Cm.updOf at this
      rwa [Nat.xor_assoc, Nat.xor_self, Nat.xor_zero, Nat.xor_assoc, Nat.xor_self, Nat.xor_zero] at this
    rw [Cm.reg_word, Cm.reg_word, hl] at h1
    have bl : Cm.word l < 4294967296 := Nat.lt_of_lt_of_le (Cm.word_lt l) (Nat.le_trans (Nat.pow_le_pow_right (by decide) (show 8 * l.length ≤ 32 by omega)) (by decide))
    have bk : Cm.word k < 4294967296 := Nat.lt_of_lt_of_le (Cm.word_lt k) (Nat.le_trans (Nat.pow_le_pow_right (by decide) (show 8 * k.length ≤ 32 by omega)) (by decide))
    have h2 := Cm.stN_eq _ (Cm.xor_lt (by decide) bl) (Cm.xor_lt (by decide) bk) h1
    have h3 : (0 ^^^ Cm.ones) ^^^ ((0 ^^^ Cm.ones) ^^^ Cm.word l) = (0 ^^^ Cm.ones) ^^^ ((0 ^^^ Cm.ones) ^^^ Cm.word k) := by rw [h2]
    rw [← Nat.xor_assoc, Nat.xor_self, Nat.zero_xor, ← Nat.xor_assoc, Nat.xor_self, Nat.zero_xor] at h3
    exact Cm.word_inj l k hl h3
  · intro h; rw [h]
theorem sums_beq (s t : ByteArray) (hl : s.size = t.size) (h4 : s.size ≤ 4) : (((Cm.updOf 0 s.data.toList : Nat) : Int) == ((Cm.updOf 0 t.data.toList : Nat) : Int)) = (s.toList == t.toList) := by
  rw [Lib.toList_data, Lib.toList_data, Bool.eq_iff_iff, beq_iff_eq, beq_iff_eq]
  have := sums_eq s.data.toList t.data.toList (by simpa using hl) (by simpa using h4)
  rw [← this]
  omega
set_option maxHeartbeats 400000 in
set_option maxRecDepth 100000 in
theorem crcShort_walk (a0 a1 : Int) (w0 : (Lit.int .u32 a0).wf = true) (w1 : (Lit.int .u32 a1).wf = true) (w : World) :
    Calls Try.prog 9 #[.int .u32 a0, .int .u32 a1] w fun e w' => e = .returned (.bool true) ∧ Below w.heap.size w w' := by
  obtain ⟨u0, u0'⟩ := Ma.wf_u32 w0
  obtain ⟨u1, u1'⟩ := Ma.wf_u32 w1
  obtain ⟨A, rfl⟩ := Int.eq_ofNat_of_zero_le u0
  obtain ⟨B, rfl⟩ := Int.eq_ofNat_of_zero_le u1
  clear w0 w1
  have cA := Lib.hid (cells4 A (by omega))
  have cB := Lib.hid (cells4 B (by omega))
  obtain ⟨x, hx⟩ : ∃ x, x = str4 A := ⟨_, rfl⟩
  obtain ⟨y, hy⟩ : ∃ y, y = str4 B := ⟨_, rfl⟩
  have lx : Hid (x.data.toList = Ma.leTo A 4) := by rw [hx]; exact str4_list A
  have ly : Hid (y.data.toList = Ma.leTo B 4) := by rw [hy]; exact str4_list B
  have sx : Hid (x.size = 4) := by show _ = _; rw [Lib.size_eq, lx.out, Ma.leTo_length]
  have sy : Hid (y.size = 4) := by show _ = _; rw [Lib.size_eq, ly.out, Ma.leTo_length]
  clear hx hy
  have x4 : 4 ≤ x.size := by rw [sx.out]; exact Nat.le_refl _
  have y4 : 4 ≤ y.size := by rw [sy.out]; exact Nat.le_refl _
  have b1 := sums_beq x y (by rw [sx.out, sy.out]) (by rw [sx.out]; exact Nat.le_refl _)
  have b2 := sums_beq (x.extract 0 2) (y.extract 0 2) (by simp; omega) (by simp; omega)
  obtain ⟨X, hX⟩ : ∃ X : Int, X = ((Cm.updOf 0 x.data.toList : Nat) : Int) := ⟨_, rfl⟩
  obtain ⟨Y, hY⟩ : ∃ Y : Int, Y = ((Cm.updOf 0 y.data.toList : Nat) : Int) := ⟨_, rfl⟩
  obtain ⟨X2, hX2⟩ : ∃ X : Int, X = ((Cm.updOf 0 (x.extract 0 2).data.toList : Nat) : Int) := ⟨_, rfl⟩
  obtain ⟨Y2, hY2⟩ : ∃ Y : Int, Y = ((Cm.updOf 0 (y.extract 0 2).data.toList : Nat) : Int) := ⟨_, rfl⟩
  have SX : Hid (∀ w, Calls Try.prog 21 #[.string x] w fun e w' => e = .returned (.int .i64 X) ∧ Below w.heap.size w w') := by rw [hX]; exact fun w => sum_any x w (by rw [sx.out]; decide)
  have SY : Hid (∀ w, Calls Try.prog 21 #[.string y] w fun e w' => e = .returned (.int .i64 Y) ∧ Below w.heap.size w w') := by rw [hY]; exact fun w => sum_any y w (by rw [sy.out]; decide)
  have SX2 : Hid (∀ w, Calls Try.prog 21 #[.string (x.extract 0 2)] w fun e w' => e = .returned (.int .i64 X2) ∧ Below w.heap.size w w') := by rw [hX2]; exact fun w => sum_any _ w (by simp; omega)
  have SY2 : Hid (∀ w, Calls Try.prog 21 #[.string (y.extract 0 2)] w fun e w' => e = .returned (.int .i64 Y2) ∧ Below w.heap.size w w') := by rw [hY2]; exact fun w => sum_any _ w (by simp; omega)
  rw [← hX, ← hY] at b1
  rw [← hX2, ← hY2] at b2
  clear hX hY hX2 hY2
  go_enter Try.func9, Try.ntmps9
  go_wp2_with (first | (refine Buf.wpList_back_lit rfl _ 45 9 5 rfl Try.underlying45 Try.underlying5 Try.underlying9 (Ma.leTo A 4) rfl (Ma.leTo_length A 4).symm rfl cA.out (by rw [Ma.leTo_length]; decide) x lx.out ?_) | (refine Buf.wpList_back_lit rfl _ 45 9 5 rfl Try.underlying45 Try.underlying5 Try.underlying9 (Ma.leTo B 4) (by simp) (Ma.leTo_length B 4).symm rfl cB.out (by rw [Ma.leTo_length]; decide) y ly.out ?_))
  refine Buf.region_calm w (by kernel_rfl) (by kernel_rfl) (((Below.refl _ _).alloc (Nat.le_refl _) _).alloc (by simp) _) ?_
  repeat (go_big_quiet_step ((intro hC; first | (go_at_call 21; first | (with_reducible exact Buf.calm hC (SX.out _)) | (with_reducible exact Buf.calm hC (SY.out _)) | (with_reducible exact Buf.calm hC (SX2.out _)) | (with_reducible exact Buf.calm hC (SY2.out _))) | (go_at_call 16; exact Buf.calm hC (sane_any _)) | rfl)))
  refine wpQuiet_nil ?_
  intro w1 hb1
  go_wp2
  go_ret
  exact ⟨rfl, hb1⟩
end Laws
end Go.Proofs.Ytmkcheiidhppbab
