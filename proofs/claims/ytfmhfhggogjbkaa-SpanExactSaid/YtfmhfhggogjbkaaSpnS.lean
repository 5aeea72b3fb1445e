/- slices.SortFunc at api.Span: which numbers its functions and types bear here. -/
import Derived.Shelf.SlSortCmp.WholeK
import Derived.Shelf.SlGeneric
import Derived.Test.YtfmhfhggogjbkaaChecked
set_option linter.unusedVariables false
namespace Go.Proofs.Ytfmhfhggogjbkaa
open Go.Shelf
namespace SpnS
theorem bears_of {P : Program} {f : FuncId} {F B : Func} (h : P.funcs[f]? = some F) (hn : (F.name == "runtime.NumGoroutine") = false) (e : F = { B with name := F.name }) : Bears P f B := ⟨F.name, hn, h.trans (congrArg some e)⟩
def ren : Ren where
  f := fun | 6 => 58 | 14 => 71 | 15 => 72 | 20 => 74 | 21 => 75 | 22 => 76 | 23 => 77 | 24 => 78 | 25 => 79 | 26 => 80 | 27 => 81 | 28 => 82 | 29 => 83 | 46 => 84 | 47 => 85 | 48 => 86 | 49 => 87 | 50 => 88 | 57 => 89 | n => n
  t := fun | 0 => 0 | 3 => 3 | 4 => 4 | 5 => 5 | 9 => 9 | 22 => 23 | 24 => 49 | 25 => 70 | 39 => 79 | 45 => 82 | 46 => 83 | 50 => 42 | 53 => 89 | 55 => 71 | 66 => 91 | 70 => 95 | 76 => 97 | 77 => 98 | n => n
  g := fun n => n
theorem lays : SlLaysF0.n6 Try.prog ren where
  mixed := by kernel_rfl
  f6 := bears_of Try.func58 (by kernel_rfl) (by kernel_rfl)
  f14 := bears_of Try.func71 (by kernel_rfl) (by kernel_rfl)
  f15 := Try.func72.trans (congrArg some (by kernel_rfl))
  f20 := bears_of Try.func74 (by kernel_rfl) (by kernel_rfl)
  f21 := bears_of Try.func75 (by kernel_rfl) (by kernel_rfl)
  f22 := bears_of Try.func76 (by kernel_rfl) (by kernel_rfl)
  f23 := bears_of Try.func77 (by kernel_rfl) (by kernel_rfl)
  f24 := bears_of Try.func78 (by kernel_rfl) (by kernel_rfl)
  f25 := bears_of Try.func79 (by kernel_rfl) (by kernel_rfl)
  f26 := bears_of Try.func80 (by kernel_rfl) (by kernel_rfl)
  f27 := bears_of Try.func81 (by kernel_rfl) (by kernel_rfl)
  f28 := Try.func82.trans (congrArg some (by kernel_rfl))
  f29 := Try.func83.trans (congrArg some (by kernel_rfl))
  f46 := bears_of Try.func84 (by kernel_rfl) (by kernel_rfl)
  f47 := Try.func85.trans (congrArg some (by kernel_rfl))
  f48 := Try.func86.trans (congrArg some (by kernel_rfl))
  f49 := bears_of Try.func87 (by kernel_rfl) (by kernel_rfl)
  f50 := bears_of Try.func88 (by kernel_rfl) (by kernel_rfl)
  f57 := bears_of Try.func89 (by kernel_rfl) (by kernel_rfl)
  t0 := Try.underlying0
  a0 := Try.isAgg0
  z0 := Try.sizeOf0
  v0 := Try.zeroValue0
  t3 := Try.underlying3
  a3 := Try.isAgg3
  z3 := Try.sizeOf3
  v3 := Try.zeroValue3
  t4 := Try.underlying4
  a4 := Try.isAgg4
  z4 := Try.sizeOf4
  v4 := Try.zeroValue4
  t5 := Try.underlying5
  a5 := Try.isAgg5
  z5 := Try.sizeOf5
  v5 := Try.zeroValue5
  t9 := Try.underlying9
  a9 := Try.isAgg9
  z9 := Try.sizeOf9
  v9 := Try.zeroValue9
  t22 := Try.underlying23
  a22 := Try.isAgg23
  z22 := Try.sizeOf23
  v22 := Try.zeroValue23
  t25 := Try.underlying70
  a25 := Try.isAgg70
  z25 := Try.sizeOf70
  v25 := Try.zeroValue70
  t39 := Try.underlying79
  a39 := Try.isAgg79
  z39 := Try.sizeOf79
  v39 := Try.zeroValue79
  t45 := Try.underlying82
  a45 := Try.isAgg82
  z45 := Try.sizeOf82
  v45 := Try.zeroValue82
  t46 := Try.underlying83
  a46 := Try.isAgg83
  z46 := Try.sizeOf83
  v46 := Try.zeroValue83
  t50 := Try.underlying42
  a50 := Try.isAgg42
  z50 := Try.sizeOf42
  v50 := Try.zeroValue42
  t53 := Try.underlying89
  a53 := Try.isAgg89
  z53 := Try.sizeOf89
  v53 := Try.zeroValue89
  t55 := Try.underlying71
  a55 := Try.isAgg71
  z55 := Try.sizeOf71
  v55 := Try.zeroValue71
  t66 := Try.underlying91
  a66 := Try.isAgg91
  z66 := Try.sizeOf91
  v66 := Try.zeroValue91
  t70 := Try.underlying95
  a70 := Try.isAgg95
  z70 := Try.sizeOf95
  v70 := Try.zeroValue95
  t76 := Try.underlying97
  a76 := Try.isAgg97
  z76 := Try.sizeOf97
  v76 := Try.zeroValue97
  t77 := Try.underlying98
  a77 := Try.isAgg98
  z77 := Try.sizeOf98
  v77 := Try.zeroValue98
end SpnS
end Go.Proofs.Ytfmhfhggogjbkaa
