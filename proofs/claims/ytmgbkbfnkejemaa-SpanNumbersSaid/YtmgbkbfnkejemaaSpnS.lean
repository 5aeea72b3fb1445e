/- slices.SortFunc at api.Span: which numbers its functions and types bear here. -/
import Derived.Shelf.SlSortCmp.WholeK
import Derived.Shelf.SlGeneric
import Derived.Test.YtmgbkbfnkejemaaChecked
set_option linter.unusedVariables false
namespace Go.Proofs.Ytmgbkbfnkejemaa
open Go.Shelf
namespace SpnS
theorem bears_of {P : Program} {f : FuncId} {F B : Func} (h : P.funcs[f]? = some F) (hn : (F.name == "runtime.NumGoroutine") = false) (e : F = { B with name := F.name }) : Bears P f B := ⟨F.name, hn, h.trans (congrArg some e)⟩
def ren : Ren where
  f := fun | 6 => 25 | 14 => 29 | 15 => 30 | 20 => 32 | 21 => 33 | 22 => 34 | 23 => 35 | 24 => 36 | 25 => 37 | 26 => 38 | 27 => 39 | 28 => 40 | 29 => 41 | 46 => 42 | 47 => 43 | 48 => 44 | 49 => 45 | 50 => 46 | 57 => 47 | n => n
  t := fun | 0 => 0 | 3 => 3 | 4 => 4 | 5 => 5 | 9 => 9 | 22 => 27 | 24 => 40 | 25 => 51 | 39 => 55 | 45 => 58 | 46 => 59 | 50 => 36 | 53 => 65 | 55 => 52 | 66 => 67 | 70 => 71 | 76 => 73 | 77 => 74 | n => n
  g := fun n => n
theorem lays : SlLaysF0.n6 Try.prog ren where
  mixed := by kernel_rfl
  f6 := bears_of Try.func25 (by kernel_rfl) (by kernel_rfl)
  f14 := bears_of Try.func29 (by kernel_rfl) (by kernel_rfl)
  f15 := Try.func30.trans (congrArg some (by kernel_rfl))
  f20 := bears_of Try.func32 (by kernel_rfl) (by kernel_rfl)
  f21 := bears_of Try.func33 (by kernel_rfl) (by kernel_rfl)
  f22 := bears_of Try.func34 (by kernel_rfl) (by kernel_rfl)
  f23 := bears_of Try.func35 (by kernel_rfl) (by kernel_rfl)
  f24 := bears_of Try.func36 (by kernel_rfl) (by kernel_rfl)
  f25 := bears_of Try.func37 (by kernel_rfl) (by kernel_rfl)
  f26 := bears_of Try.func38 (by kernel_rfl) (by kernel_rfl)
  f27 := bears_of Try.func39 (by kernel_rfl) (by kernel_rfl)
  f28 := Try.func40.trans (congrArg some (by kernel_rfl))
  f29 := Try.func41.trans (congrArg some (by kernel_rfl))
  f46 := bears_of Try.func42 (by kernel_rfl) (by kernel_rfl)
  f47 := Try.func43.trans (congrArg some (by kernel_rfl))
  f48 := Try.func44.trans (congrArg some (by kernel_rfl))
  f49 := bears_of Try.func45 (by kernel_rfl) (by kernel_rfl)
  f50 := bears_of Try.func46 (by kernel_rfl) (by kernel_rfl)
  f57 := bears_of Try.func47 (by kernel_rfl) (by kernel_rfl)
  t0 := Try.underlying0
  a0 := Try.isAgg0
  z0 := Try.sizeOf0
  v0 := Try.zeroValue0
  t3 := Try.underlying3
  a3 := Try.isAgg3
  z3 := Try.sizeOf3
  v3 := Try.zeroValue3
  t4 := Try.underlying4
  a4 := Try.isAgg4
  z4 := Try.sizeOf4
  v4 := Try.zeroValue4
  t5 := Try.underlying5
  a5 := Try.isAgg5
  z5 := Try.sizeOf5
  v5 := Try.zeroValue5
  t9 := Try.underlying9
  a9 := Try.isAgg9
  z9 := Try.sizeOf9
  v9 := Try.zeroValue9
  t22 := Try.underlying27
  a22 := Try.isAgg27
  z22 := Try.sizeOf27
  v22 := Try.zeroValue27
  t25 := Try.underlying51
  a25 := Try.isAgg51
  z25 := Try.sizeOf51
  v25 := Try.zeroValue51
  t39 := Try.underlying55
  a39 := Try.isAgg55
  z39 := Try.sizeOf55
  v39 := Try.zeroValue55
  t45 := Try.underlying58
  a45 := Try.isAgg58
  z45 := Try.sizeOf58
  v45 := Try.zeroValue58
  t46 := Try.underlying59
  a46 := Try.isAgg59
  z46 := Try.sizeOf59
  v46 := Try.zeroValue59
  t50 := Try.underlying36
  a50 := Try.isAgg36
  z50 := Try.sizeOf36
  v50 := Try.zeroValue36
  t53 := Try.underlying65
  a53 := Try.isAgg65
  z53 := Try.sizeOf65
  v53 := Try.zeroValue65
  t55 := Try.underlying52
  a55 := Try.isAgg52
  z55 := Try.sizeOf52
  v55 := Try.zeroValue52
  t66 := Try.underlying67
  a66 := Try.isAgg67
  z66 := Try.sizeOf67
  v66 := Try.zeroValue67
  t70 := Try.underlying71
  a70 := Try.isAgg71
  z70 := Try.sizeOf71
  v70 := Try.zeroValue71
  t76 := Try.underlying73
  a76 := Try.isAgg73
  z76 := Try.sizeOf73
  v76 := Try.zeroValue73
  t77 := Try.underlying74
  a77 := Try.isAgg74
  z77 := Try.sizeOf74
  v77 := Try.zeroValue74
end SpnS
end Go.Proofs.Ytmgbkbfnkejemaa
