/- slices.SortFunc at api.SourceID: which numbers its functions and types bear here. -/
import Derived.Shelf.SlSortCmp.WholeK
import Derived.Shelf.SlGeneric
import Derived.Test.YtppbejebmlcloaaDoorChecked
set_option linter.unusedVariables false
namespace Go.Proofs.YtppbejebmlcloaaDoor
open Go.Shelf
namespace SrcK
theorem bears_of {P : Program} {f : FuncId} {F B : Func} (h : P.funcs[f]? = some F) (hn : (F.name == "runtime.NumGoroutine") = false) (e : F = { B with name := F.name }) : Bears P f B := ⟨F.name, hn, h.trans (congrArg some e)⟩
def ren : Ren where
  f := fun | 6 => 24 | 14 => 31 | 15 => 32 | 20 => 37 | 21 => 38 | 22 => 39 | 23 => 40 | 24 => 41 | 25 => 42 | 26 => 43 | 27 => 44 | 28 => 45 | 29 => 46 | 46 => 51 | 47 => 52 | 48 => 53 | 49 => 54 | 50 => 55 | 57 => 61 | n => n
  t := fun | 0 => 0 | 3 => 3 | 4 => 4 | 5 => 5 | 9 => 9 | 22 => 38 | 24 => 28 | 25 => 37 | 39 => 60 | 45 => 64 | 46 => 65 | 50 => 69 | 53 => 72 | 55 => 74 | 66 => 79 | 70 => 83 | 76 => 85 | 77 => 86 | n => n
  g := fun n => n
theorem lays : SlLaysF0.n6 Tryd.prog ren where
  mixed := by kernel_rfl
  f6 := bears_of Tryd.func24 (by kernel_rfl) (by kernel_rfl)
  f14 := bears_of Tryd.func31 (by kernel_rfl) (by kernel_rfl)
  f15 := Tryd.func32.trans (congrArg some (by kernel_rfl))
  f20 := bears_of Tryd.func37 (by kernel_rfl) (by kernel_rfl)
  f21 := bears_of Tryd.func38 (by kernel_rfl) (by kernel_rfl)
  f22 := bears_of Tryd.func39 (by kernel_rfl) (by kernel_rfl)
  f23 := bears_of Tryd.func40 (by kernel_rfl) (by kernel_rfl)
  f24 := bears_of Tryd.func41 (by kernel_rfl) (by kernel_rfl)
  f25 := bears_of Tryd.func42 (by kernel_rfl) (by kernel_rfl)
  f26 := bears_of Tryd.func43 (by kernel_rfl) (by kernel_rfl)
  f27 := bears_of Tryd.func44 (by kernel_rfl) (by kernel_rfl)
  f28 := Tryd.func45.trans (congrArg some (by kernel_rfl))
  f29 := Tryd.func46.trans (congrArg some (by kernel_rfl))
  f46 := bears_of Tryd.func51 (by kernel_rfl) (by kernel_rfl)
  f47 := Tryd.func52.trans (congrArg some (by kernel_rfl))
  f48 := Tryd.func53.trans (congrArg some (by kernel_rfl))
  f49 := bears_of Tryd.func54 (by kernel_rfl) (by kernel_rfl)
  f50 := bears_of Tryd.func55 (by kernel_rfl) (by kernel_rfl)
  f57 := bears_of Tryd.func61 (by kernel_rfl) (by kernel_rfl)
  t0 := Tryd.underlying0
  a0 := Tryd.isAgg0
  z0 := Tryd.sizeOf0
  v0 := Tryd.zeroValue0
  t3 := Tryd.underlying3
  a3 := Tryd.isAgg3
  z3 := Tryd.sizeOf3
  v3 := Tryd.zeroValue3
  t4 := Tryd.underlying4
  a4 := Tryd.isAgg4
  z4 := Tryd.sizeOf4
  v4 := Tryd.zeroValue4
  t5 := Tryd.underlying5
  a5 := Tryd.isAgg5
  z5 := Tryd.sizeOf5
  v5 := Tryd.zeroValue5
  t9 := Tryd.underlying9
  a9 := Tryd.isAgg9
  z9 := Tryd.sizeOf9
  v9 := Tryd.zeroValue9
  t22 := Tryd.underlying38
  a22 := Tryd.isAgg38
  z22 := Tryd.sizeOf38
  v22 := Tryd.zeroValue38
  t25 := Tryd.underlying37
  a25 := Tryd.isAgg37
  z25 := Tryd.sizeOf37
  v25 := Tryd.zeroValue37
  t39 := Tryd.underlying60
  a39 := Tryd.isAgg60
  z39 := Tryd.sizeOf60
  v39 := Tryd.zeroValue60
  t45 := Tryd.underlying64
  a45 := Tryd.isAgg64
  z45 := Tryd.sizeOf64
  v45 := Tryd.zeroValue64
  t46 := Tryd.underlying65
  a46 := Tryd.isAgg65
  z46 := Tryd.sizeOf65
  v46 := Tryd.zeroValue65
  t50 := Tryd.underlying69
  a50 := Tryd.isAgg69
  z50 := Tryd.sizeOf69
  v50 := Tryd.zeroValue69
  t53 := Tryd.underlying72
  a53 := Tryd.isAgg72
  z53 := Tryd.sizeOf72
  v53 := Tryd.zeroValue72
  t55 := Tryd.underlying74
  a55 := Tryd.isAgg74
  z55 := Tryd.sizeOf74
  v55 := Tryd.zeroValue74
  t66 := Tryd.underlying79
  a66 := Tryd.isAgg79
  z66 := Tryd.sizeOf79
  v66 := Tryd.zeroValue79
  t70 := Tryd.underlying83
  a70 := Tryd.isAgg83
  z70 := Tryd.sizeOf83
  v70 := Tryd.zeroValue83
  t76 := Tryd.underlying85
  a76 := Tryd.isAgg85
  z76 := Tryd.sizeOf85
  v76 := Tryd.zeroValue85
  t77 := Tryd.underlying86
  a77 := Tryd.isAgg86
  z77 := Tryd.sizeOf86
  v77 := Tryd.zeroValue86
end SrcK
end Go.Proofs.YtppbejebmlcloaaDoor
