/- Plain facts on numbers and their bits, as the walks spell them. -/
import Derived.WalkKit
import Derived.Laws.BitsAllLaws
namespace Go.Proofs.YtldgihlhioeipaaGreat
namespace Ma

theorem pow_bd (n k : Nat) (h : n ≤ k) : (1 : Int) ≤ 2 ^ n ∧ (2 : Int) ^ n ≤ 2 ^ k :=
  ⟨by exact_mod_cast Nat.one_le_two_pow, by exact_mod_cast Nat.pow_le_pow_right (by decide) h⟩

theorem ofInt_nat (a : Nat) (ha : a < 18446744073709551616) : (BitVec.ofInt 64 (a : Int)).toNat = a := by
  rw [BitVec.ofInt_natCast, BitVec.toNat_ofNat]; exact Nat.mod_eq_of_lt ha

theorem wrap_nat (a : Nat) (ha : a < 9223372036854775808) : IntKind.i64.wrap (a : Int) = a := IntWalk.i64_in _ ⟨by omega, by omega⟩

theorem and_nat (a b : Nat) (ha : a < 9223372036854775808) (hb : b < 9223372036854775808) : bits .and .i64 (a : Int) (b : Int) = ((a &&& b : Nat) : Int) := by
  simp only [bits, BitVec.toNat_and]
  show IntKind.i64.wrap (((BitVec.ofInt 64 (a : Int)).toNat &&& (BitVec.ofInt 64 (b : Int)).toNat : Nat) : Int) = _
  rw [ofInt_nat a (by omega), ofInt_nat b (by omega)]
  exact wrap_nat _ (Nat.lt_of_le_of_lt Nat.and_le_left ha)
theorem or_nat (a b : Nat) (ha : a < 9223372036854775808) (hb : b < 9223372036854775808) : bits .or .i64 (a : Int) (b : Int) = ((a ||| b : Nat) : Int) := by
  simp only [bits, BitVec.toNat_or]
  show IntKind.i64.wrap (((BitVec.ofInt 64 (a : Int)).toNat ||| (BitVec.ofInt 64 (b : Int)).toNat : Nat) : Int) = _
  rw [ofInt_nat a (by omega), ofInt_nat b (by omega)]
  exact wrap_nat _ (Nat.or_lt_two_pow (n := 63) ha hb)
theorem xor_nat (a b : Nat) (ha : a < 9223372036854775808) (hb : b < 9223372036854775808) : bits .xor .i64 (a : Int) (b : Int) = ((a ^^^ b : Nat) : Int) := by
  simp only [bits, BitVec.toNat_xor]
  show IntKind.i64.wrap (((BitVec.ofInt 64 (a : Int)).toNat ^^^ (BitVec.ofInt 64 (b : Int)).toNat : Nat) : Int) = _
  rw [ofInt_nat a (by omega), ofInt_nat b (by omega)]
  exact wrap_nat _ (Nat.xor_lt_two_pow (n := 63) ha hb)
theorem andNot_nat (a b : Nat) (ha : a < 9223372036854775808) (hb : b < 9223372036854775808) : bits .andNot .i64 (a : Int) (b : Int) = ((a &&& (18446744073709551615 - b) : Nat) : Int) := by
  simp only [bits, BitVec.toNat_and, BitVec.toNat_not]
  show IntKind.i64.wrap (((BitVec.ofInt 64 (a : Int)).toNat &&& (2 ^ 64 - 1 - (BitVec.ofInt 64 (b : Int)).toNat) : Nat) : Int) = _
  rw [ofInt_nat a (by omega), ofInt_nat b (by omega)]
  have e : 2 ^ 64 - 1 - b = 18446744073709551615 - b := by omega
  rw [e]
  exact wrap_nat _ (Nat.lt_of_le_of_lt Nat.and_le_left ha)

/-- The lowest k bits, of a negative number too. -/
theorem and_mask (n : Int) (k : Nat) (hk : k ≤ 62) : bits .and .i64 n (2 ^ k - 1) = n % 2 ^ k := by
  have hpos : 0 < 2 ^ k := Nat.two_pow_pos k
  have hle : 2 ^ k ≤ 2 ^ 62 := Nat.pow_le_pow_right (by decide) hk
  have hc : ((2 : Int) ^ k - 1) = ((2 ^ k - 1 : Nat) : Int) := by
    rw [Int.natCast_sub hpos]; simp
  simp only [bits, BitVec.toNat_and]
  show IntKind.i64.wrap (((BitVec.ofInt 64 n).toNat &&& (BitVec.ofInt 64 (2 ^ k - 1)).toNat : Nat) : Int) = _
  rw [hc, ofInt_nat _ (by omega), BitVec.toNat_ofInt, Nat.and_two_pow_sub_one_eq_mod]
  have hdvd : ((2 : Int) ^ k) ∣ ((2 ^ 64 : Nat) : Int) := by
    refine ⟨2 ^ (64 - k), ?_⟩
    rw [← Int.pow_add, show k + (64 - k) = 64 by omega]; rfl
  have h0 : 0 ≤ n % ((2 ^ 64 : Nat) : Int) := Int.emod_nonneg _ (by decide)
  have hm : (((n % ((2 ^ 64 : Nat) : Int)).toNat % 2 ^ k : Nat) : Int) = n % 2 ^ k := by
    rw [Int.natCast_emod, Int.toNat_of_nonneg h0, Int.natCast_pow]
    exact Int.emod_emod_of_dvd n hdvd
  rw [hm]
  have h1 : 0 ≤ n % (2 : Int) ^ k := Int.emod_nonneg _ (by have := (pow_bd k 62 hk).1; omega)
  have h2 : n % (2 : Int) ^ k < 2 ^ k := Int.emod_lt_of_pos _ (by have := (pow_bd k 62 hk).1; omega)
  have h3 : (2 : Int) ^ k ≤ 2 ^ 62 := (pow_bd k 62 hk).2
  exact IntWalk.i64_in _ ⟨by omega, by omega⟩

/-- Two bits of a number are cleared and set. -/
theorem set_two (q d r v s : Nat) (hd : d < 4) (hv : v < 4) (hr : r < 2 ^ s) (hs : s ≤ 60) (hq : 2 ^ s * (2 ^ 2 * q + d) + r < 2 ^ 64) :
    (2 ^ s * (2 ^ 2 * q + d) + r) &&& (18446744073709551615 - 2 ^ s * 3) ||| 2 ^ s * v = 2 ^ s * (2 ^ 2 * q + v) + r := by
  have hlt : 2 ^ s * 3 < 2 ^ 64 := by
    have : 2 ^ s ≤ 2 ^ 60 := Nat.pow_le_pow_right (by decide) hs
    omega
  have e : 18446744073709551615 - 2 ^ s * 3 = 2 ^ 64 - (2 ^ s * 3 + 1) := by omega
  have zero : (0 : Nat) < 2 ^ s := Nat.two_pow_pos s
  have z3 : ∀ j, Nat.testBit 3 j = decide (j < 2) := fun j => Nat.testBit_two_pow_sub_one 2 j
  rw [e]
  apply Nat.eq_of_testBit_eq
  intro i
  have tb : ∀ x, Nat.testBit (2 ^ s * x) i = if i < s then false else Nat.testBit x (i - s) := fun x => by
    have := Nat.testBit_two_pow_mul_add x zero i; simpa using this
  have hbig : 64 ≤ i → Nat.testBit (2 ^ s * (2 ^ 2 * q + d) + r) i = false := fun h =>
    Nat.testBit_lt_two_pow (Nat.lt_of_lt_of_le hq (Nat.pow_le_pow_right (by decide) h))
  rw [Nat.testBit_or, Nat.testBit_and, Nat.testBit_two_pow_sub_succ (by omega)]
  by_cases h64 : i < 64
  · rw [Nat.testBit_two_pow_mul_add _ hr, tb, tb, Nat.testBit_two_pow_mul_add _ hr]
    by_cases hi : i < s
    · simp [hi, h64]
    · simp only [hi, h64, if_false, decide_true, Bool.true_and]
      rw [Nat.testBit_two_pow_mul_add _ (show d < 2 ^ 2 from hd), Nat.testBit_two_pow_mul_add _ (show v < 2 ^ 2 from hv), z3]
      by_cases h2 : i - s < 2
      · simp [h2]
      · have hvj : Nat.testBit v (i - s) = false := Nat.testBit_lt_two_pow (Nat.lt_of_lt_of_le (show v < 2 ^ 2 from hv) (Nat.pow_le_pow_right (by decide) (by omega)))
        simp [h2, hvj]
  · rw [hbig (by omega), tb, Nat.testBit_two_pow_mul_add _ hr]
    have hb := hbig (by omega)
    rw [Nat.testBit_two_pow_mul_add _ hr] at hb
    have his : ¬ i < s := by omega
    simp only [his, if_false] at hb ⊢
    rw [Nat.testBit_two_pow_mul_add _ (show d < 2 ^ 2 from hd)] at hb
    rw [Nat.testBit_two_pow_mul_add _ (show v < 2 ^ 2 from hv)]
    have h2 : ¬ i - s < 2 := by omega
    have hvj : Nat.testBit v (i - s) = false := Nat.testBit_lt_two_pow (Nat.lt_of_lt_of_le (show v < 2 ^ 2 from hv) (Nat.pow_le_pow_right (by decide) (by omega)))
    simp only [h2, if_false] at hb ⊢
    simp [hb, hvj, tb, his]
/-- What Sign computes. -/
def sg (n p q : Int) : Int := if n < p then n else n - q
theorem sgn (n p q : Int) (h1 : 0 ≤ n) (h2 : n < q) (hq : q = 2 * p) (hp : q ≤ 72057594037927936) : RowKit.wrap64 (n - RowKit.wrap64 (n / p * q)) = sg n p q := by
  unfold sg
  by_cases h : n < p
  · rw [if_pos h, Int.ediv_eq_zero_of_lt h1 h, Int.zero_mul, IntWalk.wrap64_in 0 ⟨by omega, by omega⟩, Int.sub_zero, IntWalk.wrap64_in _ ⟨by omega, by omega⟩]
  · have e : n / p = 1 := by
      have := Int.ediv_eq_iff_of_pos (k := p) (x := n) (y := 1) (by omega)
      rw [this]; omega
    rw [if_neg h, e, Int.one_mul, IntWalk.wrap64_in q ⟨by omega, by omega⟩, IntWalk.wrap64_in _ ⟨by omega, by omega⟩]
theorem pow_half (b : Nat) (h : 1 ≤ b) : (2 : Int) ^ b = 2 * 2 ^ (b - 1) := by
  obtain ⟨k, rfl⟩ : ∃ k, b = k + 1 := ⟨b - 1, by omega⟩
  rw [Nat.add_sub_cancel, Int.pow_succ, Int.mul_comm]
/-- Two bits of a word. -/
def pr (w : Int) (j : Nat) : Int := w / 4 ^ j % 4
def setPr (w : Int) (j : Nat) (v : Int) : Int := w + (v - pr w j) * 4 ^ j
theorem pr_rng (w : Int) (j : Nat) : 0 ≤ pr w j ∧ pr w j ≤ 3 := by unfold pr; omega
theorem four_pow (j : Nat) : (4 : Int) ^ j = 2 ^ (2 * j) := by rw [Int.pow_mul]; rfl
theorem pr_bits (n : Int) (j s : Nat) (hs : s = 2 * j) : bits .and .i64 (n / 2 ^ s) 3 = pr n j := by
  have := and_mask (n / 2 ^ s) 2 (by omega)
  unfold pr
  rw [four_pow, ← hs]; exact this
theorem setPr_bits (n v : Int) (j s : Nat) (hs : s = 2 * j) (hj : j ≤ 15) (h1 : 0 ≤ n) (h2 : n ≤ 4294967295) (h3 : 0 ≤ v) (h4 : v ≤ 3) :
    bits .or .i64 (bits .andNot .i64 n (3 * 2 ^ s)) (v * 2 ^ s) = setPr n j v := by
  obtain ⟨N, rfl⟩ := Int.eq_ofNat_of_zero_le h1
  obtain ⟨V, rfl⟩ := Int.eq_ofNat_of_zero_le h3
  have hp : 2 ^ s ≤ 2 ^ 30 := Nat.pow_le_pow_right (by decide) (by omega)
  have hp0 : 0 < 2 ^ s := Nat.two_pow_pos s
  have hV : 2 ^ s * V ≤ 2 ^ 30 * 3 := Nat.mul_le_mul hp (by omega)
  have e1 : (3 : Int) * 2 ^ s = ((2 ^ s * 3 : Nat) : Int) := by rw [Int.natCast_mul, Int.natCast_pow, Int.mul_comm]; rfl
  have e2 : (V : Int) * 2 ^ s = ((2 ^ s * V : Nat) : Int) := by rw [Int.natCast_mul, Int.natCast_pow, Int.mul_comm]; rfl
  rw [e1, e2, andNot_nat _ _ (by omega) (by omega), or_nat _ _ (Nat.lt_of_le_of_lt Nat.and_le_left (by omega)) (by omega)]
  -- N = 2^s * (4 q + d) + r
  have hN : N = 2 ^ s * (2 ^ 2 * (N / 2 ^ s / 4) + N / 2 ^ s % 4) + N % 2 ^ s := by
    have a := Nat.div_add_mod N (2 ^ s)
    have b := Nat.div_add_mod (N / 2 ^ s) 4
    rw [show 2 ^ 2 = 4 from rfl, b]; exact a.symm
  have hr : N % 2 ^ s < 2 ^ s := Nat.mod_lt _ hp0
  have hd : N / 2 ^ s % 4 < 4 := Nat.mod_lt _ (by decide)
  have key := set_two (N / 2 ^ s / 4) (N / 2 ^ s % 4) (N % 2 ^ s) V s hd (by omega) hr (by omega) (by rw [← hN]; omega)
  rw [← hN] at key
  rw [key]
  unfold setPr pr
  rw [four_pow, ← hs]
  have ed : (N : Int) / 2 ^ s % 4 = ((N / 2 ^ s % 4 : Nat) : Int) := by simp
  rw [ed]
  generalize hdd : N / 2 ^ s % 4 = d at *
  generalize hqq : N / 2 ^ s / 4 = q at *
  generalize hrr : N % 2 ^ s = r at *
  generalize hP : (2 : Nat) ^ s = P at *
  have hP' : (2 : Int) ^ s = (P : Int) := by rw [← hP]; simp
  rw [hP', hN]
  simp only [Int.natCast_add, Int.natCast_mul, Int.sub_mul, Int.mul_add, Int.mul_comm]
  omega
/-- Byte i of a number. -/
def by8 (n i : Nat) : UInt8 := UInt8.ofNat (n / 2 ^ (8 * i))
theorem by8_toNat (n i : Nat) : (by8 n i).toNat = n / 2 ^ (8 * i) % 256 := by simp [by8]
theorem by8_bits (n i s : Nat) (hs : s = 8 * i) : bits .and .i64 ((n : Int) / 2 ^ s) 255 = ((by8 n i).toNat : Int) := by
  have := and_mask ((n : Int) / 2 ^ s) 8 (by omega)
  refine this.trans ?_
  rw [by8_toNat, hs]; simp
/-- The bytes of a number, the most significant of w first, down to byte j. -/
def beTo (n w j : Nat) : List UInt8 := (List.range (w - j)).map fun t => by8 n (w - 1 - t)
theorem beTo_start (n w : Nat) : beTo n w w = [] := by simp [beTo]
theorem beTo_step (n w j : Nat) (h : j < w) : beTo n w (j + 1) ++ [by8 n j] = beTo n w j := by
  unfold beTo
  rw [show w - j = (w - (j + 1)) + 1 by omega, List.range_succ, List.map_append, List.map_cons, List.map_nil, show w - 1 - (w - (j + 1)) = j by omega]
theorem beTo_length (n w j : Nat) : (beTo n w j).length = w - j := by simp [beTo]
/-- A string and more bytes. -/
def cat (s : ByteArray) (l : List UInt8) : ByteArray := ⟨(s.data.toList ++ l).toArray⟩
theorem cat_size (s : ByteArray) (l : List UInt8) : (cat s l).size = s.size + l.length := by
  show ((s.data.toList ++ l).toArray).size = s.data.size + l.length
  simp
theorem wf_u8 {a : Int} (h : (Lit.int .u8 a).wf = true) : 0 ≤ a ∧ a ≤ 255 := by
  simp [Lit.wf, IntKind.min, IntKind.max, IntKind.bits, IntKind.signed] at h; omega
theorem wf_u16 {a : Int} (h : (Lit.int .u16 a).wf = true) : 0 ≤ a ∧ a ≤ 65535 := by
  simp [Lit.wf, IntKind.min, IntKind.max, IntKind.bits, IntKind.signed] at h; omega
theorem wf_u32 {a : Int} (h : (Lit.int .u32 a).wf = true) : 0 ≤ a ∧ a ≤ 4294967295 := by
  simp [Lit.wf, IntKind.min, IntKind.max, IntKind.bits, IntKind.signed] at h; omega
theorem wf_i64 {a : Int} (h : (Lit.int .i64 a).wf = true) : -9223372036854775808 ≤ a ∧ a ≤ 9223372036854775807 := by
  simp [Lit.wf, IntKind.min, IntKind.max, IntKind.bits, IntKind.signed] at h; omega
/-- Wrapped, then signed. -/
theorem sg_mod (x p q : Int) (hq : q = 2 * p) (h1 : -p ≤ x) (h2 : x < p) : sg (x % q) p q = x := by
  unfold sg
  by_cases h : 0 ≤ x
  · rw [Int.emod_eq_of_lt h (by omega), if_pos h2]
  · have e : x % q = x + q := by
      rw [← Int.add_emod_right]; exact Int.emod_eq_of_lt (by omega) (by omega)
    rw [e, if_neg (by omega)]; omega
theorem mod_twice_neg (x q r : Int) (hr : r = 2 * q) (h1 : -q ≤ x) (h2 : x < 0) : x % r = x % q + q := by
  have e : x % q = x + q := by
    rw [← Int.add_emod_right]; exact Int.emod_eq_of_lt (by omega) (by omega)
  have e' : x % r = x + r := by
    rw [← Int.add_emod_right]; exact Int.emod_eq_of_lt (by omega) (by omega)
  omega
theorem mod_twice_pos (x q r : Int) (hr : r = 2 * q) (h1 : 0 ≤ x) (h2 : x < q) : x % r = x % q := by
  rw [Int.emod_eq_of_lt h1 h2, Int.emod_eq_of_lt h1 (by omega)]
theorem mod_bd (x q : Int) (h : 1 ≤ q) : 0 ≤ x % q ∧ x % q < q := ⟨Int.emod_nonneg _ (by omega), Int.emod_lt_of_pos _ (by omega)⟩
theorem four_pos (k : Nat) : (0 : Int) < 4 ^ k := Int.pow_pos (by decide)
theorem div_four (w P : Int) (hP : 0 < P) : w / (P * 4) = w / P / 4 := (Int.ediv_ediv_of_nonneg (by omega)).symm
theorem add_div (w c P : Int) (hP : 0 < P) : (w + c * P) / P = w / P + c := Int.add_mul_ediv_right _ _ (by omega)
theorem pr_set_same (w v : Int) (s : Nat) (h0 : 0 ≤ v) (h3 : v ≤ 3) : pr (setPr w s v) s = v := by
  unfold pr setPr pr
  rw [add_div _ _ _ (four_pos s)]
  omega
theorem div_set (w v : Int) (s : Nat) (h0 : 0 ≤ v) (h3 : v ≤ 3) : setPr w s v / 4 ^ (s + 1) = w / 4 ^ (s + 1) := by
  unfold setPr pr
  rw [Int.pow_succ, div_four _ _ (four_pos s), div_four _ _ (four_pos s), add_div _ _ _ (four_pos s)]
  omega
theorem pr_set_other (w v : Int) (s t : Nat) (h0 : 0 ≤ v) (h3 : v ≤ 3) (h : s ≠ t) : pr (setPr w s v) t = pr w t := by
  by_cases hlt : s < t
  · obtain ⟨k, rfl⟩ : ∃ k, t = s + 1 + k := ⟨t - (s + 1), by omega⟩
    unfold pr
    rw [Int.pow_add, ← Int.ediv_ediv_of_nonneg (Int.le_of_lt (four_pos _)), ← Int.ediv_ediv_of_nonneg (Int.le_of_lt (four_pos _)), div_set w v s h0 h3]
  · obtain ⟨k, rfl⟩ : ∃ k, s = t + 1 + k := ⟨s - (t + 1), by omega⟩
    unfold setPr
    generalize pr w (t + 1 + k) = d
    unfold pr
    have e : (v - d) * 4 ^ (t + 1 + k) = ((v - d) * 4 ^ k * 4) * 4 ^ t := by
      rw [Int.pow_add, Int.pow_succ]
      simp only [Int.mul_assoc, Int.mul_comm, Int.mul_left_comm]
    rw [e, add_div _ _ _ (four_pos t)]
    omega
theorem four_split (s : Nat) (hs : s ≤ 15) : (4 : Int) ^ 16 = 4 ^ (s + 1) * 4 ^ (15 - s) := by rw [← Int.pow_add]; congr 1; omega
theorem setPr_rng (n v : Int) (s : Nat) (hs : s ≤ 15) (h1 : 0 ≤ n) (h2 : n ≤ 4294967295) (h3 : 0 ≤ v) (h4 : v ≤ 3) : 0 ≤ setPr n s v ∧ setPr n s v ≤ 4294967295 := by
  have hd := div_set n v s h3 h4
  have hP := four_pos (s + 1)
  have h16 : (4 : Int) ^ 16 = 4294967296 := by decide
  constructor
  · have h := Int.ediv_nonneg h1 (Int.le_of_lt hP)
    rw [← hd] at h
    by_cases hn : 0 ≤ setPr n s v
    · exact hn
    · have := Int.ediv_neg_of_neg_of_pos (by omega) hP (a := setPr n s v)
      omega
  · have h := Int.ediv_lt_of_lt_mul hP (a := n) (b := 4 ^ (15 - s)) (by rw [Int.mul_comm, ← four_split s hs]; omega)
    rw [← hd] at h
    have := Int.lt_mul_of_ediv_lt hP h
    rw [Int.mul_comm, ← four_split s hs] at this
    omega
/-- The highest pairs of a word, down to pair k; the lowest k pairs of one word and the others of another. -/
def hiPr (w : Int) (k : Nat) : Int := w / 4 ^ k * 4 ^ k
def mixPr (o w : Int) (k : Nat) : Int := o / 4 ^ k * 4 ^ k + w % 4 ^ k
theorem hi_step (w : Int) (k : Nat) : setPr (hiPr w (k + 1)) k (pr w k) = hiPr w k := by
  unfold setPr hiPr pr
  have hP := four_pos k
  have e : w / 4 ^ (k + 1) * 4 ^ (k + 1) = (w / 4 ^ k / 4 * 4) * 4 ^ k := by
    rw [Int.pow_succ, div_four _ _ hP]
    simp only [Int.mul_comm, Int.mul_left_comm]
  rw [e, Int.mul_ediv_cancel _ (by omega), ← Int.add_mul]
  congr 1
  omega
theorem hi_rng (w : Int) (k : Nat) (h : 0 ≤ w) : 0 ≤ hiPr w k ∧ hiPr w k ≤ w := by
  unfold hiPr
  have hP := four_pos k
  have := Int.ediv_nonneg h (Int.le_of_lt hP)
  refine ⟨Int.mul_nonneg this (by omega), ?_⟩
  have := Int.emod_nonneg w (b := 4 ^ k) (by omega)
  have := Int.mul_ediv_add_emod w (4 ^ k)
  rw [Int.mul_comm] at this
  omega
theorem mix_step (o w : Int) (k : Nat) : setPr (mixPr o w k) k (pr w k) = mixPr o w (k + 1) := by
  unfold setPr mixPr pr
  have hP := four_pos k
  have m1 := Int.emod_nonneg w (b := 4 ^ k) (by omega)
  have m2 := Int.emod_lt_of_pos w hP
  have e : (o / 4 ^ k * 4 ^ k + w % 4 ^ k) / 4 ^ k = o / 4 ^ k := by
    rw [Int.add_comm, add_div _ _ _ hP, Int.ediv_eq_zero_of_lt m1 m2, Int.zero_add]
  rw [e]
  have e1 : o / 4 ^ (k + 1) * 4 ^ (k + 1) = (o / 4 ^ k / 4 * 4) * 4 ^ k := by
    rw [Int.pow_succ, div_four _ _ hP]
    simp only [Int.mul_comm, Int.mul_left_comm]
  have e2 : w % 4 ^ (k + 1) = (w / 4 ^ k % 4) * 4 ^ k + w % 4 ^ k := by
    have a := Int.mul_ediv_add_emod w (4 ^ (k + 1))
    have b := Int.mul_ediv_add_emod w (4 ^ k)
    have c : 4 ^ (k + 1) * (w / 4 ^ (k + 1)) = (w / 4 ^ k / 4 * 4) * 4 ^ k := by
      rw [Int.pow_succ, div_four _ _ hP]
      simp only [Int.mul_comm, Int.mul_left_comm]
    have d : (w / 4 ^ k) * 4 ^ k = (w / 4 ^ k / 4 * 4) * 4 ^ k + (w / 4 ^ k % 4) * 4 ^ k := by
      rw [← Int.add_mul]; congr 1; omega
    rw [c] at a
    rw [Int.mul_comm] at b
    omega
  rw [e1, e2]
  have f : (o / 4 ^ k) * 4 ^ k = (o / 4 ^ k / 4 * 4) * 4 ^ k + (o / 4 ^ k % 4) * 4 ^ k := by
    rw [← Int.add_mul]; congr 1; omega
  rw [Int.sub_mul]
  omega
theorem mix_rng (o w : Int) (k : Nat) (hk : k ≤ 16) (h1 : 0 ≤ o) (h2 : o ≤ 4294967295) : 0 ≤ mixPr o w k ∧ mixPr o w k ≤ 4294967295 := by
  unfold mixPr
  have hP := four_pos k
  have h16 : (4 : Int) ^ 16 = 4294967296 := by decide
  have hs : (4 : Int) ^ 16 = 4 ^ (16 - k) * 4 ^ k := by rw [← Int.pow_add]; congr 1; omega
  have m1 := Int.emod_nonneg w (b := 4 ^ k) (by omega)
  have m2 := Int.emod_lt_of_pos w hP
  have q := Int.ediv_nonneg h1 (Int.le_of_lt hP)
  have q2 := Int.ediv_lt_of_lt_mul hP (a := o) (b := 4 ^ (16 - k)) (by rw [← hs]; omega)
  have q3 : 0 ≤ o / 4 ^ k * 4 ^ k := Int.mul_nonneg q (by omega)
  have q4 : (o / 4 ^ k + 1) * 4 ^ k ≤ 4 ^ (16 - k) * 4 ^ k := Int.mul_le_mul_of_nonneg_right (by omega) (by omega)
  rw [← hs, Int.add_mul, Int.one_mul] at q4
  omega
theorem hi_start (w : Int) (h1 : 0 ≤ w) (h2 : w ≤ 4294967295) : hiPr w 16 = 0 := by
  unfold hiPr
  rw [Int.ediv_eq_zero_of_lt h1 (by omega), Int.zero_mul]
theorem hi_end (w : Int) : hiPr w 0 = w := by unfold hiPr; omega
theorem mix_start (o w : Int) : mixPr o w 0 = o := by unfold mixPr; omega
theorem mix_end (o w : Int) (h1 : 0 ≤ o) (h2 : o ≤ 4294967295) (h3 : 0 ≤ w) (h4 : w ≤ 4294967295) : mixPr o w 16 = w := by
  unfold mixPr
  rw [Int.ediv_eq_zero_of_lt h1 (by omega), Int.zero_mul, Int.emod_eq_of_lt h3 (by omega)]; omega
/-- The lowest bytes of a number, the least significant one first. -/
def leTo (n k : Nat) : List UInt8 := (List.range k).map (by8 n)
theorem leTo_zero (n : Nat) : leTo n 0 = [] := rfl
theorem leTo_succ (n k : Nat) : leTo n (k + 1) = leTo n k ++ [by8 n k] := by simp [leTo, List.range_succ]
theorem leTo_length (n k : Nat) : (leTo n k).length = k := by simp [leTo]
theorem cat_toList (s : ByteArray) (l : List UInt8) : (cat s l).data.toList = s.data.toList ++ l := by simp [cat]
/-- The number in some bytes, the most significant one first. -/
def gv (l : List UInt8) : Nat := l.foldl (fun n b => n * 256 + b.toNat) 0
theorem gv_snoc (l : List UInt8) (b : UInt8) : gv (l ++ [b]) = gv l * 256 + b.toNat := by simp [gv, List.foldl_append]
theorem gv_lt (l : List UInt8) : gv l < 256 ^ l.length := by
  induction h : l.length generalizing l with
  | zero => have : l = [] := List.eq_nil_of_length_eq_zero h; subst this; decide
  | succ n ih =>
    obtain ⟨k, b, rfl⟩ : ∃ k b, l = k ++ [b] := ⟨l.dropLast, l.getLast (by intro e; simp [e] at h), (List.dropLast_concat_getLast _).symm⟩
    have hk : k.length = n := by simpa using h
    have := ih k hk
    have hb : b.toNat < 256 := b.toNat_lt
    rw [gv_snoc, Nat.pow_succ]
    omega
theorem gv_lt6 (l : List UInt8) (h : l.length ≤ 6) : gv l ≤ 281474976710656 := by
  have h1 := gv_lt l
  have h2 : 256 ^ l.length ≤ 256 ^ 6 := Nat.pow_le_pow_right (by decide) h
  have h3 : 256 ^ 6 = 281474976710656 := by decide
  omega
theorem gv_take (s : ByteArray) (p k : Nat) (h : p + k < s.size) : gv ((s.data.toList.drop p).take (k + 1)) = gv ((s.data.toList.drop p).take k) * 256 + s[p + k].toNat := by
  have hl : k < (s.data.toList.drop p).length := by
    have : s.data.toList.length = s.size := by simp
    rw [List.length_drop]; omega
  rw [List.take_succ_eq_append_getElem hl, gv_snoc]
  congr 2
  rw [List.getElem_drop]; rfl
theorem or_byte (x b : Nat) (hx : x ≤ 281474976710656) (hb : b < 256) : bits .or .i64 ((x : Int) * 256) (b : Int) = ((x * 256 + b : Nat) : Int) := by
  have h := or_nat (x * 256) b (by omega) (by omega)
  rw [Int.natCast_mul] at h
  rw [show ((256 : Nat) : Int) = 256 from rfl] at h
  rw [h, nat_join 8 (x * 256) b (by omega) hb]
theorem gv_be (n w : Nat) (hn : n < 2 ^ (8 * w)) : ∀ d j : Nat, j + d = w → gv (beTo n w j) = n / 2 ^ (8 * j) := by
  intro d
  induction d with
  | zero =>
    intro j hj
    obtain rfl : j = w := by omega
    rw [beTo_start, Nat.div_eq_of_lt hn]; rfl
  | succ d ih =>
    intro j hj
    rw [← beTo_step n w j (by omega), gv_snoc, ih (j + 1) (by omega), by8_toNat]
    have e : 2 ^ (8 * (j + 1)) = 2 ^ (8 * j) * 256 := by rw [Nat.mul_add, Nat.pow_add]
    rw [e, ← Nat.div_div_eq_div_mul]
    omega
theorem get_put (s : ByteArray) (n w : Nat) (hn : n < 2 ^ (8 * w)) : gv (((cat s (beTo n w 0) ++ s).data.toList.drop s.size).take w) = n := by
  have e : (cat s (beTo n w 0) ++ s).data.toList = s.data.toList ++ (beTo n w 0 ++ s.data.toList) := by simp [cat]
  have hl : s.data.toList.length = s.size := by simp
  have hb : (beTo n w 0).length = w := by rw [beTo_length]; rfl
  rw [e, ← hl, List.drop_left, List.take_left' hb, gv_be n w hn w 0 (by omega)]
  simp
theorem by8_int (N : Int) (k : Nat) (h : 0 ≤ N) : ((by8 N.toNat k).toNat : Int) = N / 2 ^ (8 * k) % 256 := by
  obtain ⟨n, rfl⟩ := Int.eq_ofNat_of_zero_le h
  rw [by8_toNat, Int.toNat_natCast]; simp
end Ma
end Go.Proofs.YtldgihlhioeipaaGreat
