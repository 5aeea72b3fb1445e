/- Damaged packets: flipped bits behind the header, truncation. -/
import Derived.Test.YtfebacopbacopaaDoorPktAH
import Derived.Test.YtfebacopbacopaaDoorCrcBurstsWalk
import Derived.Test.YtfebacopbacopaaDoorRef06
set_option linter.unusedVariables false
set_option linter.unusedSimpArgs false
namespace Go.Proofs.YtfebacopbacopaaDoor
open Go.RowKit Dice
namespace Pkt
theorem flipL_take (l : List UInt8) (p : Nat) (h : 248 ≤ p) : (Cm.flipL l p).take 31 = l.take 31 := by
  unfold Cm.flipL
  rw [List.take_set_of_le (by omega)]
theorem flips_take (l : List UInt8) (p m : Nat) (h : 248 ≤ p) : ∀ k, (Crc.flips l p m k).take 31 = l.take 31 := by
  intro k
  induction k with
  | zero => rfl
  | succ k ih =>
    rw [Crc.flips_succ]
    split
    · rw [flipL_take _ _ (by omega), ih]
    · exact ih
theorem flips_none (l : List UInt8) (p : Nat) : ∀ k, Crc.flips l p 0 k = l := by
  intro k
  induction k with
  | zero => rfl
  | succ k ih =>
    rw [Crc.flips_succ, if_neg (by simp), ih]
theorem getD_take {l y : List UInt8} (h : y.take 31 = l.take 31) (i : Nat) (hi : i < 31) : y.getD i 0 = l.getD i 0 := by
  have e : ∀ z : List UInt8, z.getD i 0 = (z.take 31).getD i 0 := fun z => by
    simp [List.getD_eq_getElem?_getD, List.getElem?_take, hi]
  rw [e y, e l, h]
/-- The header alone tells the length. -/
theorem Lng.of_take {l y : List UInt8} {tl fr : Nat} (G : Lng l tl fr) (h : y.take 31 = l.take 31) (h31 : 31 ≤ y.length) (h9 : y.length ≤ 1000000) : Lng y tl fr := by
  refine ⟨h31, h9, ?_, ?_, ?_, G.t8, G.t15, G.f1, G.f8⟩
  · have e : ∀ z : List UInt8, z.take 3 = (z.take 31).take 3 := fun z => by rw [List.take_take]; rfl
    rw [e y, h, ← e l]; exact G.hm
  · rw [getD_take h 29 (by omega)]; exact G.ht
  · rw [getD_take h 30 (by omega)]; exact G.hf
theorem Lng.cut {l : List UInt8} {tl fr : Nat} (G : Lng l tl fr) (c : Nat) (h : 31 ≤ c) (hc : c ≤ l.length) : Lng (l.take c) tl fr := by
  have h9 := G.h9
  refine G.of_take ?_ ?_ ?_
  · rw [List.take_take, show min 31 c = 31 by omega]
  · rw [List.length_take]; omega
  · rw [List.length_take]; omega
theorem take_extract (l : List UInt8) (c : Nat) : (ByteArray.mk ⟨l⟩).extract 0 c = ⟨⟨l.take c⟩⟩ := by
  apply ByteArray.ext
  apply Array.ext'
  simp
end Pkt
end Go.Proofs.YtfebacopbacopaaDoor
