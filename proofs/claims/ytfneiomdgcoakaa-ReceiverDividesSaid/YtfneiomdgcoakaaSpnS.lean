/- slices.SortFunc at api.Span: which numbers its functions and types bear here. -/
import Derived.Shelf.SlSortCmp.WholeK
import Derived.Shelf.SlGeneric
import Derived.Test.YtfneiomdgcoakaaChecked
set_option linter.unusedVariables false
namespace Go.Proofs.Ytfneiomdgcoakaa
open Go.Shelf
namespace SpnS
theorem bears_of {P : Program} {f : FuncId} {F B : Func} (h : P.funcs[f]? = some F) (hn : (F.name == "runtime.NumGoroutine") = false) (e : F = { B with name := F.name }) : Bears P f B := ⟨F.name, hn, h.trans (congrArg some e)⟩
def ren : Ren where
  f := fun | 6 => 52 | 14 => 60 | 15 => 61 | 20 => 64 | 21 => 65 | 22 => 66 | 23 => 67 | 24 => 68 | 25 => 69 | 26 => 70 | 27 => 71 | 28 => 72 | 29 => 73 | 46 => 75 | 47 => 76 | 48 => 77 | 49 => 78 | 50 => 79 | 57 => 80 | n => n
  t := fun | 0 => 0 | 3 => 3 | 4 => 4 | 5 => 5 | 9 => 9 | 22 => 28 | 24 => 47 | 25 => 68 | 39 => 73 | 45 => 76 | 46 => 77 | 50 => 40 | 53 => 83 | 55 => 69 | 66 => 85 | 70 => 89 | 76 => 91 | 77 => 92 | n => n
  g := fun n => n
theorem lays : SlLaysF0.n6 Try.prog ren where
  mixed := by kernel_rfl
  f6 := bears_of Try.func52 (by kernel_rfl) (by kernel_rfl)
  f14 := bears_of Try.func60 (by kernel_rfl) (by kernel_rfl)
  f15 := Try.func61.trans (congrArg some (by kernel_rfl))
  f20 := bears_of Try.func64 (by kernel_rfl) (by kernel_rfl)
  f21 := bears_of Try.func65 (by kernel_rfl) (by kernel_rfl)
  f22 := bears_of Try.func66 (by kernel_rfl) (by kernel_rfl)
  f23 := bears_of Try.func67 (by kernel_rfl) (by kernel_rfl)
  f24 := bears_of Try.func68 (by kernel_rfl) (by kernel_rfl)
  f25 := bears_of Try.func69 (by kernel_rfl) (by kernel_rfl)
  f26 := bears_of Try.func70 (by kernel_rfl) (by kernel_rfl)
  f27 := bears_of Try.func71 (by kernel_rfl) (by kernel_rfl)
  f28 := Try.func72.trans (congrArg some (by kernel_rfl))
  f29 := Try.func73.trans (congrArg some (by kernel_rfl))
  f46 := bears_of Try.func75 (by kernel_rfl) (by kernel_rfl)
  f47 := Try.func76.trans (congrArg some (by kernel_rfl))
  f48 := Try.func77.trans (congrArg some (by kernel_rfl))
  f49 := bears_of Try.func78 (by kernel_rfl) (by kernel_rfl)
  f50 := bears_of Try.func79 (by kernel_rfl) (by kernel_rfl)
  f57 := bears_of Try.func80 (by kernel_rfl) (by kernel_rfl)
  t0 := Try.underlying0
  a0 := Try.isAgg0
  z0 := Try.sizeOf0
  v0 := Try.zeroValue0
  t3 := Try.underlying3
  a3 := Try.isAgg3
  z3 := Try.sizeOf3
  v3 := Try.zeroValue3
  t4 := Try.underlying4
  a4 := Try.isAgg4
  z4 := Try.sizeOf4
  v4 := Try.zeroValue4
  t5 := Try.underlying5
  a5 := Try.isAgg5
  z5 := Try.sizeOf5
  v5 := Try.zeroValue5
  t9 := Try.underlying9
  a9 := Try.isAgg9
  z9 := Try.sizeOf9
  v9 := Try.zeroValue9
  t22 := Try.underlying28
  a22 := Try.isAgg28
  z22 := Try.sizeOf28
  v22 := Try.zeroValue28
  t25 := Try.underlying68
  a25 := Try.isAgg68
  z25 := Try.sizeOf68
  v25 := Try.zeroValue68
  t39 := Try.underlying73
  a39 := Try.isAgg73
  z39 := Try.sizeOf73
  v39 := Try.zeroValue73
  t45 := Try.underlying76
  a45 := Try.isAgg76
  z45 := Try.sizeOf76
  v45 := Try.zeroValue76
  t46 := Try.underlying77
  a46 := Try.isAgg77
  z46 := Try.sizeOf77
  v46 := Try.zeroValue77
  t50 := Try.underlying40
  a50 := Try.isAgg40
  z50 := Try.sizeOf40
  v50 := Try.zeroValue40
  t53 := Try.underlying83
  a53 := Try.isAgg83
  z53 := Try.sizeOf83
  v53 := Try.zeroValue83
  t55 := Try.underlying69
  a55 := Try.isAgg69
  z55 := Try.sizeOf69
  v55 := Try.zeroValue69
  t66 := Try.underlying85
  a66 := Try.isAgg85
  z66 := Try.sizeOf85
  v66 := Try.zeroValue85
  t70 := Try.underlying89
  a70 := Try.isAgg89
  z70 := Try.sizeOf89
  v70 := Try.zeroValue89
  t76 := Try.underlying91
  a76 := Try.isAgg91
  z76 := Try.sizeOf91
  v76 := Try.zeroValue91
  t77 := Try.underlying92
  a77 := Try.isAgg92
  z77 := Try.sizeOf92
  v77 := Try.zeroValue92
end SpnS
end Go.Proofs.Ytfneiomdgcoakaa
