/-
  No cell of these rows narrows 'for every input' (looked for: loops, veiled, ifaces, maps, wideKeys, modest, calm, conditions, laid).
  DERIVED. THE GIVEN ROWS OF THIS SEAT. 6 by the template 'for every input the law returns true; each argument reads behind the call as it read before'; 0 by the template 'total and deterministic' (their statements: YtohjdklbdkpmjaaTotals.lean).
  GIVEN WITH THE SEED: the statements are not yours to turn. If you find one false, say at which input.
  Laid BY PROGRAM, IN A SANDBOX (cutbox-rows.mjs): the forced cells as the released guide's own fill.sh prints them over the translation 77a7d7ea8c55aba1… (all of the seat's roots in one cut). By AI agents, Wed Nov 11 2026. No macro, syntax, notation, axiom, sorry.
-/
import Derived.Test.YtohjdklbdkpmjaaChecked
import GoSem.Claim
import GoSem.ClaimJoined
import GoSem.ClaimMapViews
import Derived.JoinedTies
import Derived.KernelRfl
namespace Go.Proofs.Ytohjdklbdkpmjaa
/- THE CELL 'sum', in the pinned program and in every row, IS THE sha256 OF THE DUMP (.gsa) THAT YtohjdklbdkpmjaaProg.lean LOADS. Nothing in Lean hashes anything: it is a label: what it is worth is what the hold of that sum in a sandbox is worth. -/
noncomputable def Try.pinned : Pinned := { name := "ytohjdklbdkpmjaa", sum := "77a7d7ea8c55aba1488adc1f541a755e119f4219be49b5bb604d622f39e50686", checked := Try.checked }
namespace Rows
def none {H : Type} : Left H := { results := [], args := [] }

/-- 'seismonetlaw31.LogarithmDecades': WHATEVER THE INPUT: true; the input reads as it did. -/
def logarithmDecadesSpec : ChangeSpec := { name := "logarithmDecades", fn := fun _ => fun
  | [d] => { results := [.lit (.bool true)], args := [d] }
  | _ => none }
def logarithmDecadesRow : OpenClaim := { program := "ytohjdklbdkpmjaa", sum := "77a7d7ea8c55aba1488adc1f541a755e119f4219be49b5bb604d622f39e50686", func := "seismonet/seismonetlaw31.LogarithmDecades", spec := "logarithmDecades", unfollowed := true, recurses := true, apart := false }
def LogarithmDecadesSaid : Prop := logarithmDecadesRow.holds Try.pinned (OpenSpec.ofChange logarithmDecadesSpec)

/-- ITS FALSE NEIGHBOUR: 'it returns false'. Refute it at one input. -/
def logarithmDecadesWrong : ChangeSpec := { name := "logarithmDecades", fn := fun _ => fun
  | [d] => { results := [.lit (.bool false)], args := [d] }
  | _ => none }
def LogarithmDecadesWrongFalsely : Prop := logarithmDecadesRow.holds Try.pinned (OpenSpec.ofChange logarithmDecadesWrong)

/-- 'seismonetlaw31.LogarithmOctaves': WHATEVER THE INPUT: true; the input reads as it did. -/
def logarithmOctavesSpec : ChangeSpec := { name := "logarithmOctaves", fn := fun _ => fun
  | [d] => { results := [.lit (.bool true)], args := [d] }
  | _ => none }
def logarithmOctavesRow : OpenClaim := { program := "ytohjdklbdkpmjaa", sum := "77a7d7ea8c55aba1488adc1f541a755e119f4219be49b5bb604d622f39e50686", func := "seismonet/seismonetlaw31.LogarithmOctaves", spec := "logarithmOctaves", unfollowed := true, recurses := true, apart := false }
def LogarithmOctavesSaid : Prop := logarithmOctavesRow.holds Try.pinned (OpenSpec.ofChange logarithmOctavesSpec)

/-- ITS FALSE NEIGHBOUR: 'it returns false'. Refute it at one input. -/
def logarithmOctavesWrong : ChangeSpec := { name := "logarithmOctaves", fn := fun _ => fun
  | [d] => { results := [.lit (.bool false)], args := [d] }
  | _ => none }
def LogarithmOctavesWrongFalsely : Prop := logarithmOctavesRow.holds Try.pinned (OpenSpec.ofChange logarithmOctavesWrong)

/-- 'seismonetlaw31.LogarithmGrows': WHATEVER THE INPUT: true; the input reads as it did. -/
def logarithmGrowsSpec : ChangeSpec := { name := "logarithmGrows", fn := fun _ => fun
  | [d1, d2, d3] => { results := [.lit (.bool true)], args := [d1, d2, d3] }
  | _ => none }
def logarithmGrowsRow : OpenClaim := { program := "ytohjdklbdkpmjaa", sum := "77a7d7ea8c55aba1488adc1f541a755e119f4219be49b5bb604d622f39e50686", func := "seismonet/seismonetlaw31.LogarithmGrows", spec := "logarithmGrows", unfollowed := true, recurses := true, apart := false }
def LogarithmGrowsSaid : Prop := logarithmGrowsRow.holds Try.pinned (OpenSpec.ofChange logarithmGrowsSpec)

/-- ITS FALSE NEIGHBOUR: 'it returns false'. Refute it at one input. -/
def logarithmGrowsWrong : ChangeSpec := { name := "logarithmGrows", fn := fun _ => fun
  | [d1, d2, d3] => { results := [.lit (.bool false)], args := [d1, d2, d3] }
  | _ => none }
def LogarithmGrowsWrongFalsely : Prop := logarithmGrowsRow.holds Try.pinned (OpenSpec.ofChange logarithmGrowsWrong)

/-- 'seismonetlaw31.LogarithmAdds': WHATEVER THE INPUT: true; the input reads as it did. -/
def logarithmAddsSpec : ChangeSpec := { name := "logarithmAdds", fn := fun _ => fun
  | [d1, d2] => { results := [.lit (.bool true)], args := [d1, d2] }
  | _ => none }
def logarithmAddsRow : OpenClaim := { program := "ytohjdklbdkpmjaa", sum := "77a7d7ea8c55aba1488adc1f541a755e119f4219be49b5bb604d622f39e50686", func := "seismonet/seismonetlaw31.LogarithmAdds", spec := "logarithmAdds", unfollowed := true, recurses := true, apart := false }
def LogarithmAddsSaid : Prop := logarithmAddsRow.holds Try.pinned (OpenSpec.ofChange logarithmAddsSpec)

/-- ITS FALSE NEIGHBOUR: 'it returns false'. Refute it at one input. -/
def logarithmAddsWrong : ChangeSpec := { name := "logarithmAdds", fn := fun _ => fun
  | [d1, d2] => { results := [.lit (.bool false)], args := [d1, d2] }
  | _ => none }
def LogarithmAddsWrongFalsely : Prop := logarithmAddsRow.holds Try.pinned (OpenSpec.ofChange logarithmAddsWrong)

/-- 'seismonetlaw24.GeometryRoots': WHATEVER THE INPUT: true; the input reads as it did. -/
def geometryRootsSpec : ChangeSpec := { name := "geometryRoots", fn := fun _ => fun
  | [d] => { results := [.lit (.bool true)], args := [d] }
  | _ => none }
def geometryRootsRow : OpenClaim := { program := "ytohjdklbdkpmjaa", sum := "77a7d7ea8c55aba1488adc1f541a755e119f4219be49b5bb604d622f39e50686", func := "seismonet/seismonetlaw24.GeometryRoots", spec := "geometryRoots", apart := false }
def GeometryRootsSaid : Prop := geometryRootsRow.holds Try.pinned (OpenSpec.ofChange geometryRootsSpec)

/-- ITS FALSE NEIGHBOUR: 'it returns false'. Refute it at one input. -/
def geometryRootsWrong : ChangeSpec := { name := "geometryRoots", fn := fun _ => fun
  | [d] => { results := [.lit (.bool false)], args := [d] }
  | _ => none }
def GeometryRootsWrongFalsely : Prop := geometryRootsRow.holds Try.pinned (OpenSpec.ofChange geometryRootsWrong)

/-- 'seismonetlaw24.GeometryTriangle': WHATEVER THE INPUT: true; the input reads as it did. -/
def geometryTriangleSpec : ChangeSpec := { name := "geometryTriangle", fn := fun _ => fun
  | [d] => { results := [.lit (.bool true)], args := [d] }
  | _ => none }
def geometryTriangleRow : OpenClaim := { program := "ytohjdklbdkpmjaa", sum := "77a7d7ea8c55aba1488adc1f541a755e119f4219be49b5bb604d622f39e50686", func := "seismonet/seismonetlaw24.GeometryTriangle", spec := "geometryTriangle", apart := false }
def GeometryTriangleSaid : Prop := geometryTriangleRow.holds Try.pinned (OpenSpec.ofChange geometryTriangleSpec)

/-- ITS FALSE NEIGHBOUR: 'it returns false'. Refute it at one input. -/
def geometryTriangleWrong : ChangeSpec := { name := "geometryTriangle", fn := fun _ => fun
  | [d] => { results := [.lit (.bool false)], args := [d] }
  | _ => none }
def GeometryTriangleWrongFalsely : Prop := geometryTriangleRow.holds Try.pinned (OpenSpec.ofChange geometryTriangleWrong)

/- THE SECOND FORM. 'bulk': how many values and letters a reading holds, each counted each time it is reached (what is shared counts as often as it is met; a slice's spare places count too). A statement '..UptoSaid' is the law's where the arguments, and the package variables that the reading takes, are together of bulk at most 1048576: NARROWER than '..Said'. Prove '..Said' where nothing that the law and all that it calls make is longer than what came in: it says more and counts as full. Else prove '..UptoSaid'. A law counts once. -/
mutual
def uptoBulk {H : Type} : DataW H → Nat
  | .lit (.string bytes) => bytes.length + 1
  | .lit _ => 1
  | .nil => 1
  | .ptr d => uptoBulk d + 1
  | .slice elems spare => uptoBulkAll elems + uptoBulkAll spare + 1
  | .agg parts => uptoBulkAll parts + 1
  | .iface _ d => uptoBulk d + 1
  | .map entries => uptoBulkEntries entries + 1
  | .held _ => 1
def uptoBulkAll {H : Type} : List (DataW H) → Nat
  | [] => 0
  | d :: r => uptoBulk d + uptoBulkAll r
def uptoBulkEntries {H : Type} : List (Lit × DataW H) → Nat
  | [] => 0
  | x :: r => uptoBulkEntry x + uptoBulkEntries r
def uptoBulkEntry {H : Type} : Lit × DataW H → Nat
  | (.string bytes, d) => bytes.length + uptoBulk d + 1
  | (_, d) => uptoBulk d + 1
 end
def uptoSmall : (H : Type) → List (DataW H) → Bool := fun _ ds => decide (uptoBulkAll ds ≤ 1048576)
def OpenSpec.upto (s : _root_.Go.ChangeSpec) : _root_.Go.OpenSpec := { _root_.Go.OpenSpec.ofChange s with cond := some uptoSmall }

/-- 'seismonetlaw31.LogarithmDecades', WHERE WHAT IT READS IS OF BULK AT MOST 1048576: true; the input reads as it did. -/
def logarithmDecadesUptoRow : OpenClaim := { program := "ytohjdklbdkpmjaa", sum := "77a7d7ea8c55aba1488adc1f541a755e119f4219be49b5bb604d622f39e50686", func := "seismonet/seismonetlaw31.LogarithmDecades", spec := "logarithmDecades", unfollowed := true, recurses := true, apart := false, narrowed := true }
def LogarithmDecadesUptoSaid : Prop := logarithmDecadesUptoRow.holds Try.pinned (OpenSpec.upto logarithmDecadesSpec)

/-- 'seismonetlaw31.LogarithmOctaves', WHERE WHAT IT READS IS OF BULK AT MOST 1048576: true; the input reads as it did. -/
def logarithmOctavesUptoRow : OpenClaim := { program := "ytohjdklbdkpmjaa", sum := "77a7d7ea8c55aba1488adc1f541a755e119f4219be49b5bb604d622f39e50686", func := "seismonet/seismonetlaw31.LogarithmOctaves", spec := "logarithmOctaves", unfollowed := true, recurses := true, apart := false, narrowed := true }
def LogarithmOctavesUptoSaid : Prop := logarithmOctavesUptoRow.holds Try.pinned (OpenSpec.upto logarithmOctavesSpec)

/-- 'seismonetlaw31.LogarithmGrows', WHERE WHAT IT READS IS OF BULK AT MOST 1048576: true; the input reads as it did. -/
def logarithmGrowsUptoRow : OpenClaim := { program := "ytohjdklbdkpmjaa", sum := "77a7d7ea8c55aba1488adc1f541a755e119f4219be49b5bb604d622f39e50686", func := "seismonet/seismonetlaw31.LogarithmGrows", spec := "logarithmGrows", unfollowed := true, recurses := true, apart := false, narrowed := true }
def LogarithmGrowsUptoSaid : Prop := logarithmGrowsUptoRow.holds Try.pinned (OpenSpec.upto logarithmGrowsSpec)

/-- 'seismonetlaw31.LogarithmAdds', WHERE WHAT IT READS IS OF BULK AT MOST 1048576: true; the input reads as it did. -/
def logarithmAddsUptoRow : OpenClaim := { program := "ytohjdklbdkpmjaa", sum := "77a7d7ea8c55aba1488adc1f541a755e119f4219be49b5bb604d622f39e50686", func := "seismonet/seismonetlaw31.LogarithmAdds", spec := "logarithmAdds", unfollowed := true, recurses := true, apart := false, narrowed := true }
def LogarithmAddsUptoSaid : Prop := logarithmAddsUptoRow.holds Try.pinned (OpenSpec.upto logarithmAddsSpec)

/-- 'seismonetlaw24.GeometryRoots', WHERE WHAT IT READS IS OF BULK AT MOST 1048576: true; the input reads as it did. -/
def geometryRootsUptoRow : OpenClaim := { program := "ytohjdklbdkpmjaa", sum := "77a7d7ea8c55aba1488adc1f541a755e119f4219be49b5bb604d622f39e50686", func := "seismonet/seismonetlaw24.GeometryRoots", spec := "geometryRoots", apart := false, narrowed := true }
def GeometryRootsUptoSaid : Prop := geometryRootsUptoRow.holds Try.pinned (OpenSpec.upto geometryRootsSpec)

/-- 'seismonetlaw24.GeometryTriangle', WHERE WHAT IT READS IS OF BULK AT MOST 1048576: true; the input reads as it did. -/
def geometryTriangleUptoRow : OpenClaim := { program := "ytohjdklbdkpmjaa", sum := "77a7d7ea8c55aba1488adc1f541a755e119f4219be49b5bb604d622f39e50686", func := "seismonet/seismonetlaw24.GeometryTriangle", spec := "geometryTriangle", apart := false, narrowed := true }
def GeometryTriangleUptoSaid : Prop := geometryTriangleUptoRow.holds Try.pinned (OpenSpec.upto geometryTriangleSpec)

end Rows
end Go.Proofs.Ytohjdklbdkpmjaa
