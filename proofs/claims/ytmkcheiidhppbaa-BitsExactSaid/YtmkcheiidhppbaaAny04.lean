/- What the functions of layer 4 and of its reference return, for any arguments: one and the same. -/
import Derived.Test.YtmkcheiidhppbaaSane04
import Derived.Test.YtmkcheiidhppbaaRef04
namespace Go.Proofs.Ytmkcheiidhppbaa
open Go.RowKit
namespace Any04
theorem dr {w w' : World} (h : ∃ m, w' = w.drewN m) : Below w.heap.size w w' := by
  obtain ⟨m, rfl⟩ := h
  exact Buf.below_drewN (Below.refl _ _) m
def putC (x wd : Int) : Bool := decide (1 ≤ wd ∧ wd ≤ 7 ∧ 0 ≤ x ∧ x < 2 ^ (8 * wd.toNat))
def putS (s : ByteArray) (x wd : Int) : ByteArray := if putC x wd then Ma.cat s (Ma.beTo x.toNat wd.toNat 0) else ByteArray.empty
def putE (x wd : Int) : Int := if putC x wd then 0 else 2
def getV (s : ByteArray) (p wd : Int) : Int := if wd < 1 ∨ 7 < wd ∨ p < 0 then 0 else if (s.size : Int) - wd < p then 0 else (Ma.gv ((s.data.toList.drop p.toNat).take wd.toNat) : Nat)
def getE (s : ByteArray) (p wd : Int) : Int := if wd < 1 ∨ 7 < wd ∨ p < 0 then 2 else if (s.size : Int) - wd < p then 4 else 0
def fitC (n b : Int) : Bool := decide (1 ≤ b ∧ b ≤ 56 ∧ -(2 ^ (b.toNat - 1)) ≤ n ∧ n < 2 ^ (b.toNat - 1))
def wrapV (n b : Int) : Int := if fitC n b then n % 2 ^ b.toNat else 0
def wrapE (n b : Int) : Int := if fitC n b then 0 else 2
def signC (n b : Int) : Bool := decide (1 ≤ b ∧ b ≤ 56 ∧ 0 ≤ n ∧ n < 2 ^ b.toNat)
def signV (n b : Int) : Int := if signC n b then Ma.sg n (2 ^ (b.toNat - 1)) (2 ^ b.toNat) else 0
def signE (n b : Int) : Int := if signC n b then 0 else 2
def pairC (n i : Int) : Bool := decide (0 ≤ n ∧ n ≤ 4294967295 ∧ 0 ≤ i ∧ i ≤ 15)
def pairV (n i : Int) : Int := if pairC n i then Ma.pr n (15 - i).toNat else 0
def pairE (n i : Int) : Int := if pairC n i then 0 else 2
def setC (n i v : Int) : Bool := decide (0 ≤ n ∧ n ≤ 4294967295 ∧ 0 ≤ i ∧ i ≤ 15 ∧ 0 ≤ v ∧ v ≤ 3)
def setV (n i v : Int) : Int := if setC n i v then Ma.setPr n (15 - i).toNat v else 0
def setE (n i v : Int) : Int := if setC n i v then 0 else 2
theorem bput (s : ByteArray) (x wd : Int) (w : World) (hs : s.size ≤ 1000000) :
    Calls Try.prog 62 #[.string s, .int .i64 x, .int .i64 wd] w fun e w' => e = .returned (.tuple #[.string (putS s x wd), .int .i64 (putE x wd)]) ∧ Below w.heap.size w w' := by
  unfold putS putE putC
  by_cases h : 1 ≤ wd ∧ wd ≤ 7 ∧ 0 ≤ x ∧ x < 2 ^ (8 * wd.toNat)
  · simp only [h, decide_true, if_true, and_self]
    have hx : ((x.toNat : Nat) : Int) = x := Int.toNat_of_nonneg h.2.2.1
    have hw : ((wd.toNat : Nat) : Int) = wd := Int.toNat_of_nonneg (by omega)
    have hn : x.toNat < 2 ^ (8 * wd.toNat) := by
      have h4 := h.2.2.2
      rw [← hx] at h4
      exact_mod_cast h4
    have := Bits.put_yes s x.toNat wd.toNat w hs (by omega) (by omega) hn
    rw [hx, hw] at this
    exact this
  · simp only [h, decide_false, Bool.false_eq_true, if_false]
    exact (Bits.put_no s x wd w (by omega)).mono fun _ _ ⟨a, b⟩ => ⟨a, dr b⟩
theorem bget (s : ByteArray) (q wd : Int) (w : World) (hs : s.size ≤ 1000000) :
    Calls Try.prog 64 #[.string s, .int .i64 q, .int .i64 wd] w fun e w' => e = .returned (.tuple #[.int .i64 (getV s q wd), .int .i64 (getE s q wd)]) ∧ Below w.heap.size w w' := by
  unfold getV getE
  by_cases h : wd < 1 ∨ 7 < wd ∨ q < 0
  · rw [if_pos h, if_pos h]
    exact (Bits.get_rng s q wd w h).mono fun _ _ ⟨a, b⟩ => ⟨a, dr b⟩
  · rw [if_neg h, if_neg h]
    by_cases h2 : (s.size : Int) - wd < q
    · rw [if_pos h2, if_pos h2]
      exact (Bits.get_trunc s q wd w hs (by omega) (by omega) (by omega) h2).mono fun _ _ ⟨a, b⟩ => ⟨a, dr b⟩
    · rw [if_neg h2, if_neg h2]
      have hq : ((q.toNat : Nat) : Int) = q := Int.toNat_of_nonneg (by omega)
      have hw : ((wd.toNat : Nat) : Int) = wd := Int.toNat_of_nonneg (by omega)
      have := Bits.get_ok s q.toNat wd.toNat w hs (by omega) (by omega) (by omega)
      rw [hq, hw] at this
      exact this.mono fun _ _ ⟨a, b⟩ => ⟨a, dr b⟩
theorem bfits (n b : Int) (w : World) :
    Calls Try.prog 70 #[.int .i64 n, .int .i64 b] w fun e w' => e = .returned (.bool (fitC n b)) ∧ Below w.heap.size w w' := by
  unfold fitC
  by_cases h : 1 ≤ b ∧ b ≤ 56 ∧ -(2 ^ (b.toNat - 1)) ≤ n ∧ n < 2 ^ (b.toNat - 1)
  · rw [decide_eq_true h]
    exact (Bits.fits_yes n b w h.1 h.2.1 h.2.2.1 h.2.2.2).mono fun _ _ ⟨a, b⟩ => ⟨a, dr b⟩
  · rw [decide_eq_false h]
    exact (Bits.fits_no n b w (by omega)).mono fun _ _ ⟨a, b⟩ => ⟨a, dr b⟩
theorem bwrap (n b : Int) (w : World) :
    Calls Try.prog 66 #[.int .i64 n, .int .i64 b] w fun e w' => e = .returned (.tuple #[.int .i64 (wrapV n b), .int .i64 (wrapE n b)]) ∧ Below w.heap.size w w' := by
  unfold wrapV wrapE fitC
  by_cases h : 1 ≤ b ∧ b ≤ 56 ∧ -(2 ^ (b.toNat - 1)) ≤ n ∧ n < 2 ^ (b.toNat - 1)
  · simp only [h, decide_true, if_true, and_self]
    exact (Bits.wrap_yes n b w h.1 h.2.1 h.2.2.1 h.2.2.2).mono fun _ _ ⟨a, b⟩ => ⟨a, dr b⟩
  · simp only [h, decide_false, Bool.false_eq_true, if_false]
    exact (Bits.wrap_no n b w (by omega)).mono fun _ _ ⟨a, b⟩ => ⟨a, dr b⟩
theorem bsign (n b : Int) (w : World) :
    Calls Try.prog 68 #[.int .i64 n, .int .i64 b] w fun e w' => e = .returned (.tuple #[.int .i64 (signV n b), .int .i64 (signE n b)]) ∧ Below w.heap.size w w' := by
  unfold signV signE signC
  by_cases h : 1 ≤ b ∧ b ≤ 56 ∧ 0 ≤ n ∧ n < 2 ^ b.toNat
  · simp only [h, decide_true, if_true, and_self]
    exact (Bits.sign_yes n b w h.1 h.2.1 h.2.2.1 h.2.2.2).mono fun _ _ ⟨a, b⟩ => ⟨a, dr b⟩
  · simp only [h, decide_false, Bool.false_eq_true, if_false]
    exact (Bits.sign_no n b w (by omega)).mono fun _ _ ⟨a, b⟩ => ⟨a, dr b⟩
theorem bpair (n i : Int) (w : World) :
    Calls Try.prog 72 #[.int .i64 n, .int .i64 i] w fun e w' => e = .returned (.tuple #[.int .i64 (pairV n i), .int .i64 (pairE n i)]) ∧ Below w.heap.size w w' := by
  unfold pairV pairE pairC
  by_cases h : 0 ≤ n ∧ n ≤ 4294967295 ∧ 0 ≤ i ∧ i ≤ 15
  · simp only [h, decide_true, if_true, and_self]
    exact (Bits.pair_yes n i w h.1 h.2.1 h.2.2.1 h.2.2.2).mono fun _ _ ⟨a, b⟩ => ⟨a, dr b⟩
  · simp only [h, decide_false, Bool.false_eq_true, if_false]
    exact (Bits.pair_no n i w (by omega)).mono fun _ _ ⟨a, b⟩ => ⟨a, dr b⟩
theorem bset (n i v : Int) (w : World) :
    Calls Try.prog 74 #[.int .i64 n, .int .i64 i, .int .i64 v] w fun e w' => e = .returned (.tuple #[.int .i64 (setV n i v), .int .i64 (setE n i v)]) ∧ Below w.heap.size w w' := by
  unfold setV setE setC
  by_cases h : 0 ≤ n ∧ n ≤ 4294967295 ∧ 0 ≤ i ∧ i ≤ 15 ∧ 0 ≤ v ∧ v ≤ 3
  · simp only [h, decide_true, if_true, and_self]
    exact (Bits.setPair_yes n i v w h.1 h.2.1 h.2.2.1 h.2.2.2.1 h.2.2.2.2.1 h.2.2.2.2.2).mono fun _ _ ⟨a, b⟩ => ⟨a, dr b⟩
  · simp only [h, decide_false, Bool.false_eq_true, if_false]
    exact (Bits.setPair_no n i v w (by omega)).mono fun _ _ ⟨a, b⟩ => ⟨a, dr b⟩
theorem rput (s : ByteArray) (x wd : Int) (w : World) (hs : s.size ≤ 1000000) :
    Calls Try.prog 63 #[.string s, .int .i64 x, .int .i64 wd] w fun e w' => e = .returned (.tuple #[.string (putS s x wd), .int .i64 (putE x wd)]) ∧ Below w.heap.size w w' := by
  unfold putS putE putC
  by_cases h : 1 ≤ wd ∧ wd ≤ 7 ∧ 0 ≤ x ∧ x < 2 ^ (8 * wd.toNat)
  · simp only [h, decide_true, if_true, and_self]
    have hw : ((wd.toNat : Nat) : Int) = wd := Int.toNat_of_nonneg (by omega)
    have := Ref04.put_yes s x wd.toNat w hs (by omega) (by omega) h.2.2.1 h.2.2.2
    rw [hw] at this
    exact this
  · simp only [h, decide_false, Bool.false_eq_true, if_false]
    exact (Ref04.put_no s x wd w (by omega)).mono fun _ _ ⟨a, b⟩ => ⟨a, dr b⟩
theorem rget (s : ByteArray) (q wd : Int) (w : World) (hs : s.size ≤ 1000000) :
    Calls Try.prog 65 #[.string s, .int .i64 q, .int .i64 wd] w fun e w' => e = .returned (.tuple #[.int .i64 (getV s q wd), .int .i64 (getE s q wd)]) ∧ Below w.heap.size w w' := by
  unfold getV getE
  by_cases h : wd < 1 ∨ 7 < wd ∨ q < 0
  · rw [if_pos h, if_pos h]
    exact (Ref04.get_rng s q wd w h).mono fun _ _ ⟨a, b⟩ => ⟨a, dr b⟩
  · rw [if_neg h, if_neg h]
    by_cases h2 : (s.size : Int) - wd < q
    · rw [if_pos h2, if_pos h2]
      exact (Ref04.get_trunc s q wd w hs (by omega) (by omega) (by omega) h2).mono fun _ _ ⟨a, b⟩ => ⟨a, dr b⟩
    · rw [if_neg h2, if_neg h2]
      have hq : ((q.toNat : Nat) : Int) = q := Int.toNat_of_nonneg (by omega)
      have hw : ((wd.toNat : Nat) : Int) = wd := Int.toNat_of_nonneg (by omega)
      have := Ref04.get_ok s q.toNat wd.toNat w hs (by omega) (by omega) (by omega)
      rw [hq, hw] at this
      exact this.mono fun _ _ ⟨a, b⟩ => ⟨a, dr b⟩
theorem rfits (n b : Int) (w : World) :
    Calls Try.prog 71 #[.int .i64 n, .int .i64 b] w fun e w' => e = .returned (.bool (fitC n b)) ∧ Below w.heap.size w w' := by
  unfold fitC
  by_cases h : 1 ≤ b ∧ b ≤ 56 ∧ -(2 ^ (b.toNat - 1)) ≤ n ∧ n < 2 ^ (b.toNat - 1)
  · rw [decide_eq_true h]
    exact (Ref04.fits_yes n b w h.1 h.2.1 h.2.2.1 h.2.2.2).mono fun _ _ ⟨a, b⟩ => ⟨a, dr b⟩
  · rw [decide_eq_false h]
    exact (Ref04.fits_no n b w (by omega)).mono fun _ _ ⟨a, b⟩ => ⟨a, dr b⟩
theorem rwrap (n b : Int) (w : World) :
    Calls Try.prog 67 #[.int .i64 n, .int .i64 b] w fun e w' => e = .returned (.tuple #[.int .i64 (wrapV n b), .int .i64 (wrapE n b)]) ∧ Below w.heap.size w w' := by
  unfold wrapV wrapE fitC
  by_cases h : 1 ≤ b ∧ b ≤ 56 ∧ -(2 ^ (b.toNat - 1)) ≤ n ∧ n < 2 ^ (b.toNat - 1)
  · simp only [h, decide_true, if_true, and_self]
    exact (Ref04.wrap_yes n b w h.1 h.2.1 h.2.2.1 h.2.2.2).mono fun _ _ ⟨a, b⟩ => ⟨a, dr b⟩
  · simp only [h, decide_false, Bool.false_eq_true, if_false]
    exact (Ref04.wrap_no n b w (by omega)).mono fun _ _ ⟨a, b⟩ => ⟨a, dr b⟩
theorem rsign (n b : Int) (w : World) :
    Calls Try.prog 69 #[.int .i64 n, .int .i64 b] w fun e w' => e = .returned (.tuple #[.int .i64 (signV n b), .int .i64 (signE n b)]) ∧ Below w.heap.size w w' := by
  unfold signV signE signC
  by_cases h : 1 ≤ b ∧ b ≤ 56 ∧ 0 ≤ n ∧ n < 2 ^ b.toNat
  · simp only [h, decide_true, if_true, and_self]
    exact (Ref04.sign_yes n b w h.1 h.2.1 h.2.2.1 h.2.2.2).mono fun _ _ ⟨a, b⟩ => ⟨a, dr b⟩
  · simp only [h, decide_false, Bool.false_eq_true, if_false]
    exact (Ref04.sign_no n b w (by omega)).mono fun _ _ ⟨a, b⟩ => ⟨a, dr b⟩
theorem rpair (n i : Int) (w : World) :
    Calls Try.prog 73 #[.int .i64 n, .int .i64 i] w fun e w' => e = .returned (.tuple #[.int .i64 (pairV n i), .int .i64 (pairE n i)]) ∧ Below w.heap.size w w' := by
  unfold pairV pairE pairC
  by_cases h : 0 ≤ n ∧ n ≤ 4294967295 ∧ 0 ≤ i ∧ i ≤ 15
  · simp only [h, decide_true, if_true, and_self]
    exact (Ref04.pair_yes n i w h.1 h.2.1 h.2.2.1 h.2.2.2).mono fun _ _ ⟨a, b⟩ => ⟨a, dr b⟩
  · simp only [h, decide_false, Bool.false_eq_true, if_false]
    exact (Ref04.pair_no n i w (by omega)).mono fun _ _ ⟨a, b⟩ => ⟨a, dr b⟩
theorem rset (n i v : Int) (w : World) :
    Calls Try.prog 75 #[.int .i64 n, .int .i64 i, .int .i64 v] w fun e w' => e = .returned (.tuple #[.int .i64 (setV n i v), .int .i64 (setE n i v)]) ∧ Below w.heap.size w w' := by
  unfold setV setE setC
  by_cases h : 0 ≤ n ∧ n ≤ 4294967295 ∧ 0 ≤ i ∧ i ≤ 15 ∧ 0 ≤ v ∧ v ≤ 3
  · simp only [h, decide_true, if_true, and_self]
    exact (Ref04.setPair_yes n i v w h.1 h.2.1 h.2.2.1 h.2.2.2.1 h.2.2.2.2.1 h.2.2.2.2.2).mono fun _ _ ⟨a, b⟩ => ⟨a, dr b⟩
  · simp only [h, decide_false, Bool.false_eq_true, if_false]
    exact (Ref04.setPair_no n i v w (by omega)).mono fun _ _ ⟨a, b⟩ => ⟨a, dr b⟩
end Any04
end Go.Proofs.Ytmkcheiidhppbaa
