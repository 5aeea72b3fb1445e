/- strings.Repeat of "0", strconv.Itoa. -/
import Derived.Test.YtaaeegjinblpiaaDoorNtxE
import Derived.Test.YtaaeegjinblpiaaDoorNtxR
import Derived.Test.YtaaeegjinblpiaaDoorNtxI
import Derived.Lib.AppendIntMem
set_option linter.unusedVariables false
set_option linter.unusedSimpArgs false
namespace Go.Proofs.YtaaeegjinblpiaaDoor
open Go.RowKit Dice Go.Shelf
namespace Nt
theorem extraR : Builder.Extra Tryd.prog NtxR.ren where
  sizeBuilder := by kernel_rfl
  liesBuilder := by kernel_rfl
  t5 := Tryd.underlying5
  a5 := Tryd.isAgg5
  z5 := Tryd.sizeOf5
  v5 := Tryd.zeroValue5
  infoByte := by kernel_rfl
  cellsByte := by kernel_rfl
  sizeByte := by kernel_rfl
  neB5 := by decide
theorem rep0 : ∀ c, Lib.repeatL [48] c = List.replicate c 48
  | 0 => rfl
  | c + 1 => by rw [Lib.repeatL, rep0 c]; rfl
theorem repeat_any (c : Nat) (w : World) (hc : c ≤ 100) :
    Calls Tryd.prog 41 #[.string ⟨⟨[48]⟩⟩, .int .i64 c] w fun e w' => e = .returned (.string ⟨⟨List.replicate c 48⟩⟩) ∧ Below w.heap.size w w' := by
  have h := Any.strings_Repeat NtxR.lays extraR ⟨⟨[48]⟩⟩ c w (by omega) (by show 1 * c ≤ 140737488355328; omega)
  refine Calls.mono h ?_
  rintro e w' ⟨he, hb'⟩
  refine ⟨he.trans ?_, hb'⟩
  show Ending.returned (.string ⟨(Lib.repeatL [48] c).toArray⟩) = _
  rw [rep0]
/-- The table that Itoa reads. -/
def Tab (w : World) : Prop := Lib.TabIs Tryd.prog w "internal/strconv.uint64pow10" .u64 Lib.pow10Tab
theorem itoa_any (r : Nat) (w : World) (h : Tab w) (hr : r ≤ 1000000000) :
    Calls Tryd.prog 40 #[.int .i64 r] w fun e w' => e = .returned (.string ⟨⟨Lib.decDigits r⟩⟩) ∧ Below w.heap.size w w' := by
  have h := Any.strconv_Itoa NtxI.lays (r : Int) (by omega) (by omega) w h
  refine Calls.mono h ?_
  rintro e w' ⟨he, k, os, rfl⟩
  refine ⟨?_, ?_⟩
  · rw [he, Lib.itoa_nonneg]
  · exact Lib.below_grow _ w (Nat.le_refl _) k os
end Nt
end Go.Proofs.YtaaeegjinblpiaaDoor
