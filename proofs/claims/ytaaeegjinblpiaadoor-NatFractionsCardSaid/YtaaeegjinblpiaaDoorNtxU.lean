/- Text. -/
import Derived.Test.YtaaeegjinblpiaaDoorNtxT
set_option linter.unusedVariables false
set_option linter.unusedSimpArgs false
namespace Go.Proofs.YtaaeegjinblpiaaDoor
open Go.RowKit Dice Go.Lib
namespace Nt
/-- The digits of a number; none of 0. -/
def dz (v : Nat) : List UInt8 := if v = 0 then [] else decDigits v
theorem nine (r : Nat) (h : r < 1000000000) : nDigits r ≤ 9 := by
  have h1 := len_mono r 999999999 (by omega)
  have h2 : nDigits 999999999 = 9 := nDigits_unique 8 _ (by decide) (by decide)
  omega
theorem dz_low (v : Nat) (h : v ≠ 0) (hq : v / 1000000000 = 0) : dz v = decDigits (v % 1000000000) := by
  unfold dz; rw [if_neg h, Nat.mod_eq_of_lt (by omega)]
theorem dz_high (v : Nat) (hq : v / 1000000000 ≠ 0) : dz v = dz (v / 1000000000) ++ (List.replicate (9 - nDigits (v % 1000000000)) 48 ++ decDigits (v % 1000000000)) := by
  unfold dz
  rw [if_neg hq, if_neg (by omega)]
  have h := dec_block (v / 1000000000) (by omega) 9 (v % 1000000000) (by omega) (by show _ < 1000000000; omega)
  have e : v / 1000000000 * 10 ^ 9 + v % 1000000000 = v := by
    show v / 1000000000 * 1000000000 + v % 1000000000 = v; omega
  rw [e] at h
  exact h
theorem Tab.below {w w' : World} (h : Tab w) (T : ∀ w w', Tab w → Below w.heap.size w w' → Tab w') (hb : Below w.heap.size w w') : Tab w' := T w w' h hb
end Nt
end Go.Proofs.YtaaeegjinblpiaaDoor
