/-
  No cell of these rows narrows 'for every input' (looked for: loops, veiled, ifaces, maps, wideKeys, modest, calm, conditions, laid).
  DERIVED. THE GIVEN ROWS OF THIS SEAT. 11 by the template 'for every input the law returns true; each argument reads behind the call as it read before'; 0 by the template 'total and deterministic' (their statements: YtmmikihkfpkapaaTotals.lean).
  GIVEN WITH THE SEED: the statements are not yours to turn. If you find one false, say at which input.
  Laid BY PROGRAM, IN A SANDBOX (cutbox-rows.mjs): the forced cells as the released guide's own fill.sh prints them over the translation 06b2a709cf8cc445… (all of the seat's roots in one cut). By AI agents, Wed Nov 11 2026. No macro, syntax, notation, axiom, sorry.
-/
import Derived.Test.YtmmikihkfpkapaaChecked
import GoSem.Claim
import GoSem.ClaimJoined
import GoSem.ClaimMapViews
import Derived.JoinedTies
import Derived.KernelRfl
namespace Go.Proofs.Ytmmikihkfpkapaa
/- THE CELL 'sum', in the pinned program and in every row, IS THE sha256 OF THE DUMP (.gsa) THAT YtmmikihkfpkapaaProg.lean LOADS. Nothing in Lean hashes anything: it is a label: what it is worth is what the hold of that sum in a sandbox is worth. -/
noncomputable def Try.pinned : Pinned := { name := "ytmmikihkfpkapaa", sum := "06b2a709cf8cc445b9102511b6bbc49989c50b1fe14245c3f00e11a7c6d15bcb", checked := Try.checked }
namespace Rows
def none {H : Type} : Left H := { results := [], args := [] }

/-- 'seismonetlaw27.MisfitBest': WHATEVER THE INPUT: true; the input reads as it did. -/
def misfitBestSpec : ChangeSpec := { name := "misfitBest", fn := fun _ => fun
  | [d1, d2] => { results := [.lit (.bool true)], args := [d1, d2] }
  | _ => none }
def misfitBestRow : OpenClaim := { program := "ytmmikihkfpkapaa", sum := "06b2a709cf8cc445b9102511b6bbc49989c50b1fe14245c3f00e11a7c6d15bcb", func := "seismonet/seismonetlaw27.MisfitBest", spec := "misfitBest", unfollowed := true, recurses := true, apart := false }
def MisfitBestSaid : Prop := misfitBestRow.holds Try.pinned (OpenSpec.ofChange misfitBestSpec)

/-- ITS FALSE NEIGHBOUR: 'it returns false'. Refute it at one input. -/
def misfitBestWrong : ChangeSpec := { name := "misfitBest", fn := fun _ => fun
  | [d1, d2] => { results := [.lit (.bool false)], args := [d1, d2] }
  | _ => none }
def MisfitBestWrongFalsely : Prop := misfitBestRow.holds Try.pinned (OpenSpec.ofChange misfitBestWrong)

/-- 'seismonetlaw28.LocateLeast': WHATEVER THE INPUT: true; the input reads as it did. -/
def locateLeastSpec : ChangeSpec := { name := "locateLeast", fn := fun _ => fun
  | [d] => { results := [.lit (.bool true)], args := [d] }
  | _ => none }
def locateLeastRow : OpenClaim := { program := "ytmmikihkfpkapaa", sum := "06b2a709cf8cc445b9102511b6bbc49989c50b1fe14245c3f00e11a7c6d15bcb", func := "seismonet/seismonetlaw28.LocateLeast", spec := "locateLeast", unfollowed := true, recurses := true, apart := false }
def LocateLeastSaid : Prop := locateLeastRow.holds Try.pinned (OpenSpec.ofChange locateLeastSpec)

/-- ITS FALSE NEIGHBOUR: 'it returns false'. Refute it at one input. -/
def locateLeastWrong : ChangeSpec := { name := "locateLeast", fn := fun _ => fun
  | [d] => { results := [.lit (.bool false)], args := [d] }
  | _ => none }
def LocateLeastWrongFalsely : Prop := locateLeastRow.holds Try.pinned (OpenSpec.ofChange locateLeastWrong)

/-- 'seismonetlaw27.MisfitMore': WHATEVER THE INPUT: true; the input reads as it did. -/
def misfitMoreSpec : ChangeSpec := { name := "misfitMore", fn := fun _ => fun
  | [d] => { results := [.lit (.bool true)], args := [d] }
  | _ => none }
def misfitMoreRow : OpenClaim := { program := "ytmmikihkfpkapaa", sum := "06b2a709cf8cc445b9102511b6bbc49989c50b1fe14245c3f00e11a7c6d15bcb", func := "seismonet/seismonetlaw27.MisfitMore", spec := "misfitMore", unfollowed := true, recurses := true, apart := false }
def MisfitMoreSaid : Prop := misfitMoreRow.holds Try.pinned (OpenSpec.ofChange misfitMoreSpec)

/-- ITS FALSE NEIGHBOUR: 'it returns false'. Refute it at one input. -/
def misfitMoreWrong : ChangeSpec := { name := "misfitMore", fn := fun _ => fun
  | [d] => { results := [.lit (.bool false)], args := [d] }
  | _ => none }
def MisfitMoreWrongFalsely : Prop := misfitMoreRow.holds Try.pinned (OpenSpec.ofChange misfitMoreWrong)

/-- 'seismonetlaw27.MisfitBound': WHATEVER THE INPUT: true; the input reads as it did. -/
def misfitBoundSpec : ChangeSpec := { name := "misfitBound", fn := fun _ => fun
  | [d] => { results := [.lit (.bool true)], args := [d] }
  | _ => none }
def misfitBoundRow : OpenClaim := { program := "ytmmikihkfpkapaa", sum := "06b2a709cf8cc445b9102511b6bbc49989c50b1fe14245c3f00e11a7c6d15bcb", func := "seismonet/seismonetlaw27.MisfitBound", spec := "misfitBound", unfollowed := true, recurses := true, apart := false }
def MisfitBoundSaid : Prop := misfitBoundRow.holds Try.pinned (OpenSpec.ofChange misfitBoundSpec)

/-- ITS FALSE NEIGHBOUR: 'it returns false'. Refute it at one input. -/
def misfitBoundWrong : ChangeSpec := { name := "misfitBound", fn := fun _ => fun
  | [d] => { results := [.lit (.bool false)], args := [d] }
  | _ => none }
def MisfitBoundWrongFalsely : Prop := misfitBoundRow.holds Try.pinned (OpenSpec.ofChange misfitBoundWrong)

/-- 'seismonetlaw26.BoundContains': WHATEVER THE INPUT: true; the input reads as it did. -/
def boundContainsSpec : ChangeSpec := { name := "boundContains", fn := fun _ => fun
  | [d] => { results := [.lit (.bool true)], args := [d] }
  | _ => none }
def boundContainsRow : OpenClaim := { program := "ytmmikihkfpkapaa", sum := "06b2a709cf8cc445b9102511b6bbc49989c50b1fe14245c3f00e11a7c6d15bcb", func := "seismonet/seismonetlaw26.BoundContains", spec := "boundContains", unfollowed := true, recurses := true, apart := false }
def BoundContainsSaid : Prop := boundContainsRow.holds Try.pinned (OpenSpec.ofChange boundContainsSpec)

/-- ITS FALSE NEIGHBOUR: 'it returns false'. Refute it at one input. -/
def boundContainsWrong : ChangeSpec := { name := "boundContains", fn := fun _ => fun
  | [d] => { results := [.lit (.bool false)], args := [d] }
  | _ => none }
def BoundContainsWrongFalsely : Prop := boundContainsRow.holds Try.pinned (OpenSpec.ofChange boundContainsWrong)

/-- 'seismonetlaw26.BoundExplains': WHATEVER THE INPUT: true; the input reads as it did. -/
def boundExplainsSpec : ChangeSpec := { name := "boundExplains", fn := fun _ => fun
  | [d] => { results := [.lit (.bool true)], args := [d] }
  | _ => none }
def boundExplainsRow : OpenClaim := { program := "ytmmikihkfpkapaa", sum := "06b2a709cf8cc445b9102511b6bbc49989c50b1fe14245c3f00e11a7c6d15bcb", func := "seismonet/seismonetlaw26.BoundExplains", spec := "boundExplains", unfollowed := true, recurses := true, apart := false }
def BoundExplainsSaid : Prop := boundExplainsRow.holds Try.pinned (OpenSpec.ofChange boundExplainsSpec)

/-- ITS FALSE NEIGHBOUR: 'it returns false'. Refute it at one input. -/
def boundExplainsWrong : ChangeSpec := { name := "boundExplains", fn := fun _ => fun
  | [d] => { results := [.lit (.bool false)], args := [d] }
  | _ => none }
def BoundExplainsWrongFalsely : Prop := boundExplainsRow.holds Try.pinned (OpenSpec.ofChange boundExplainsWrong)

/-- 'seismonetlaw26.BoundTight': WHATEVER THE INPUT: true; the input reads as it did. -/
def boundTightSpec : ChangeSpec := { name := "boundTight", fn := fun _ => fun
  | [d] => { results := [.lit (.bool true)], args := [d] }
  | _ => none }
def boundTightRow : OpenClaim := { program := "ytmmikihkfpkapaa", sum := "06b2a709cf8cc445b9102511b6bbc49989c50b1fe14245c3f00e11a7c6d15bcb", func := "seismonet/seismonetlaw26.BoundTight", spec := "boundTight", unfollowed := true, recurses := true, apart := false }
def BoundTightSaid : Prop := boundTightRow.holds Try.pinned (OpenSpec.ofChange boundTightSpec)

/-- ITS FALSE NEIGHBOUR: 'it returns false'. Refute it at one input. -/
def boundTightWrong : ChangeSpec := { name := "boundTight", fn := fun _ => fun
  | [d] => { results := [.lit (.bool false)], args := [d] }
  | _ => none }
def BoundTightWrongFalsely : Prop := boundTightRow.holds Try.pinned (OpenSpec.ofChange boundTightWrong)

/-- 'seismonetlaw24.GeometrySplits': WHATEVER THE INPUT: true; the input reads as it did. -/
def geometrySplitsSpec : ChangeSpec := { name := "geometrySplits", fn := fun _ => fun
  | [d] => { results := [.lit (.bool true)], args := [d] }
  | _ => none }
def geometrySplitsRow : OpenClaim := { program := "ytmmikihkfpkapaa", sum := "06b2a709cf8cc445b9102511b6bbc49989c50b1fe14245c3f00e11a7c6d15bcb", func := "seismonet/seismonetlaw24.GeometrySplits", spec := "geometrySplits", apart := false }
def GeometrySplitsSaid : Prop := geometrySplitsRow.holds Try.pinned (OpenSpec.ofChange geometrySplitsSpec)

/-- ITS FALSE NEIGHBOUR: 'it returns false'. Refute it at one input. -/
def geometrySplitsWrong : ChangeSpec := { name := "geometrySplits", fn := fun _ => fun
  | [d] => { results := [.lit (.bool false)], args := [d] }
  | _ => none }
def GeometrySplitsWrongFalsely : Prop := geometrySplitsRow.holds Try.pinned (OpenSpec.ofChange geometrySplitsWrong)

/-- 'seismonetlaw24.GeometryReached': WHATEVER THE INPUT: true; the input reads as it did. -/
def geometryReachedSpec : ChangeSpec := { name := "geometryReached", fn := fun _ => fun
  | [d] => { results := [.lit (.bool true)], args := [d] }
  | _ => none }
def geometryReachedRow : OpenClaim := { program := "ytmmikihkfpkapaa", sum := "06b2a709cf8cc445b9102511b6bbc49989c50b1fe14245c3f00e11a7c6d15bcb", func := "seismonet/seismonetlaw24.GeometryReached", spec := "geometryReached", apart := false }
def GeometryReachedSaid : Prop := geometryReachedRow.holds Try.pinned (OpenSpec.ofChange geometryReachedSpec)

/-- ITS FALSE NEIGHBOUR: 'it returns false'. Refute it at one input. -/
def geometryReachedWrong : ChangeSpec := { name := "geometryReached", fn := fun _ => fun
  | [d] => { results := [.lit (.bool false)], args := [d] }
  | _ => none }
def GeometryReachedWrongFalsely : Prop := geometryReachedRow.holds Try.pinned (OpenSpec.ofChange geometryReachedWrong)

/-- 'seismonetlaw25.TravelContains': WHATEVER THE INPUT: true; the input reads as it did. -/
def travelContainsSpec : ChangeSpec := { name := "travelContains", fn := fun _ => fun
  | [d] => { results := [.lit (.bool true)], args := [d] }
  | _ => none }
def travelContainsRow : OpenClaim := { program := "ytmmikihkfpkapaa", sum := "06b2a709cf8cc445b9102511b6bbc49989c50b1fe14245c3f00e11a7c6d15bcb", func := "seismonet/seismonetlaw25.TravelContains", spec := "travelContains", unfollowed := true, recurses := true, apart := false }
def TravelContainsSaid : Prop := travelContainsRow.holds Try.pinned (OpenSpec.ofChange travelContainsSpec)

/-- ITS FALSE NEIGHBOUR: 'it returns false'. Refute it at one input. -/
def travelContainsWrong : ChangeSpec := { name := "travelContains", fn := fun _ => fun
  | [d] => { results := [.lit (.bool false)], args := [d] }
  | _ => none }
def TravelContainsWrongFalsely : Prop := travelContainsRow.holds Try.pinned (OpenSpec.ofChange travelContainsWrong)

/-- 'seismonetlaw24.GeometryBoxes': WHATEVER THE INPUT: true; the input reads as it did. -/
def geometryBoxesSpec : ChangeSpec := { name := "geometryBoxes", fn := fun _ => fun
  | [d1, d2, d3, d4] => { results := [.lit (.bool true)], args := [d1, d2, d3, d4] }
  | _ => none }
def geometryBoxesRow : OpenClaim := { program := "ytmmikihkfpkapaa", sum := "06b2a709cf8cc445b9102511b6bbc49989c50b1fe14245c3f00e11a7c6d15bcb", func := "seismonet/seismonetlaw24.GeometryBoxes", spec := "geometryBoxes", apart := false }
def GeometryBoxesSaid : Prop := geometryBoxesRow.holds Try.pinned (OpenSpec.ofChange geometryBoxesSpec)

/-- ITS FALSE NEIGHBOUR: 'it returns false'. Refute it at one input. -/
def geometryBoxesWrong : ChangeSpec := { name := "geometryBoxes", fn := fun _ => fun
  | [d1, d2, d3, d4] => { results := [.lit (.bool false)], args := [d1, d2, d3, d4] }
  | _ => none }
def GeometryBoxesWrongFalsely : Prop := geometryBoxesRow.holds Try.pinned (OpenSpec.ofChange geometryBoxesWrong)

/- THE SECOND FORM. 'bulk': how many values and letters a reading holds, each counted each time it is reached (what is shared counts as often as it is met; a slice's spare places count too). A statement '..UptoSaid' is the law's where the arguments, and the package variables that the reading takes, are together of bulk at most 1048576: NARROWER than '..Said'. Prove '..Said' where nothing that the law and all that it calls make is longer than what came in: it says more and counts as full. Else prove '..UptoSaid'. A law counts once. -/
mutual
def uptoBulk {H : Type} : DataW H → Nat
  | .lit (.string bytes) => bytes.length + 1
  | .lit _ => 1
  | .nil => 1
  | .ptr d => uptoBulk d + 1
  | .slice elems spare => uptoBulkAll elems + uptoBulkAll spare + 1
  | .agg parts => uptoBulkAll parts + 1
  | .iface _ d => uptoBulk d + 1
  | .map entries => uptoBulkEntries entries + 1
  | .held _ => 1
def uptoBulkAll {H : Type} : List (DataW H) → Nat
  | [] => 0
  | d :: r => uptoBulk d + uptoBulkAll r
def uptoBulkEntries {H : Type} : List (Lit × DataW H) → Nat
  | [] => 0
  | x :: r => uptoBulkEntry x + uptoBulkEntries r
def uptoBulkEntry {H : Type} : Lit × DataW H → Nat
  | (.string bytes, d) => bytes.length + uptoBulk d + 1
  | (_, d) => uptoBulk d + 1
 end
def uptoSmall : (H : Type) → List (DataW H) → Bool := fun _ ds => decide (uptoBulkAll ds ≤ 1048576)
def OpenSpec.upto (s : _root_.Go.ChangeSpec) : _root_.Go.OpenSpec := { _root_.Go.OpenSpec.ofChange s with cond := some uptoSmall }

/-- 'seismonetlaw27.MisfitBest', WHERE WHAT IT READS IS OF BULK AT MOST 1048576: true; the input reads as it did. -/
def misfitBestUptoRow : OpenClaim := { program := "ytmmikihkfpkapaa", sum := "06b2a709cf8cc445b9102511b6bbc49989c50b1fe14245c3f00e11a7c6d15bcb", func := "seismonet/seismonetlaw27.MisfitBest", spec := "misfitBest", unfollowed := true, recurses := true, apart := false, narrowed := true }
def MisfitBestUptoSaid : Prop := misfitBestUptoRow.holds Try.pinned (OpenSpec.upto misfitBestSpec)

/-- 'seismonetlaw28.LocateLeast', WHERE WHAT IT READS IS OF BULK AT MOST 1048576: true; the input reads as it did. -/
def locateLeastUptoRow : OpenClaim := { program := "ytmmikihkfpkapaa", sum := "06b2a709cf8cc445b9102511b6bbc49989c50b1fe14245c3f00e11a7c6d15bcb", func := "seismonet/seismonetlaw28.LocateLeast", spec := "locateLeast", unfollowed := true, recurses := true, apart := false, narrowed := true }
def LocateLeastUptoSaid : Prop := locateLeastUptoRow.holds Try.pinned (OpenSpec.upto locateLeastSpec)

/-- 'seismonetlaw27.MisfitMore', WHERE WHAT IT READS IS OF BULK AT MOST 1048576: true; the input reads as it did. -/
def misfitMoreUptoRow : OpenClaim := { program := "ytmmikihkfpkapaa", sum := "06b2a709cf8cc445b9102511b6bbc49989c50b1fe14245c3f00e11a7c6d15bcb", func := "seismonet/seismonetlaw27.MisfitMore", spec := "misfitMore", unfollowed := true, recurses := true, apart := false, narrowed := true }
def MisfitMoreUptoSaid : Prop := misfitMoreUptoRow.holds Try.pinned (OpenSpec.upto misfitMoreSpec)

/-- 'seismonetlaw27.MisfitBound', WHERE WHAT IT READS IS OF BULK AT MOST 1048576: true; the input reads as it did. -/
def misfitBoundUptoRow : OpenClaim := { program := "ytmmikihkfpkapaa", sum := "06b2a709cf8cc445b9102511b6bbc49989c50b1fe14245c3f00e11a7c6d15bcb", func := "seismonet/seismonetlaw27.MisfitBound", spec := "misfitBound", unfollowed := true, recurses := true, apart := false, narrowed := true }
def MisfitBoundUptoSaid : Prop := misfitBoundUptoRow.holds Try.pinned (OpenSpec.upto misfitBoundSpec)

/-- 'seismonetlaw26.BoundContains', WHERE WHAT IT READS IS OF BULK AT MOST 1048576: true; the input reads as it did. -/
def boundContainsUptoRow : OpenClaim := { program := "ytmmikihkfpkapaa", sum := "06b2a709cf8cc445b9102511b6bbc49989c50b1fe14245c3f00e11a7c6d15bcb", func := "seismonet/seismonetlaw26.BoundContains", spec := "boundContains", unfollowed := true, recurses := true, apart := false, narrowed := true }
def BoundContainsUptoSaid : Prop := boundContainsUptoRow.holds Try.pinned (OpenSpec.upto boundContainsSpec)

/-- 'seismonetlaw26.BoundExplains', WHERE WHAT IT READS IS OF BULK AT MOST 1048576: true; the input reads as it did. -/
def boundExplainsUptoRow : OpenClaim := { program := "ytmmikihkfpkapaa", sum := "06b2a709cf8cc445b9102511b6bbc49989c50b1fe14245c3f00e11a7c6d15bcb", func := "seismonet/seismonetlaw26.BoundExplains", spec := "boundExplains", unfollowed := true, recurses := true, apart := false, narrowed := true }
def BoundExplainsUptoSaid : Prop := boundExplainsUptoRow.holds Try.pinned (OpenSpec.upto boundExplainsSpec)

/-- 'seismonetlaw26.BoundTight', WHERE WHAT IT READS IS OF BULK AT MOST 1048576: true; the input reads as it did. -/
def boundTightUptoRow : OpenClaim := { program := "ytmmikihkfpkapaa", sum := "06b2a709cf8cc445b9102511b6bbc49989c50b1fe14245c3f00e11a7c6d15bcb", func := "seismonet/seismonetlaw26.BoundTight", spec := "boundTight", unfollowed := true, recurses := true, apart := false, narrowed := true }
def BoundTightUptoSaid : Prop := boundTightUptoRow.holds Try.pinned (OpenSpec.upto boundTightSpec)

/-- 'seismonetlaw24.GeometrySplits', WHERE WHAT IT READS IS OF BULK AT MOST 1048576: true; the input reads as it did. -/
def geometrySplitsUptoRow : OpenClaim := { program := "ytmmikihkfpkapaa", sum := "06b2a709cf8cc445b9102511b6bbc49989c50b1fe14245c3f00e11a7c6d15bcb", func := "seismonet/seismonetlaw24.GeometrySplits", spec := "geometrySplits", apart := false, narrowed := true }
def GeometrySplitsUptoSaid : Prop := geometrySplitsUptoRow.holds Try.pinned (OpenSpec.upto geometrySplitsSpec)

/-- 'seismonetlaw24.GeometryReached', WHERE WHAT IT READS IS OF BULK AT MOST 1048576: true; the input reads as it did. -/
def geometryReachedUptoRow : OpenClaim := { program := "ytmmikihkfpkapaa", sum := "06b2a709cf8cc445b9102511b6bbc49989c50b1fe14245c3f00e11a7c6d15bcb", func := "seismonet/seismonetlaw24.GeometryReached", spec := "geometryReached", apart := false, narrowed := true }
def GeometryReachedUptoSaid : Prop := geometryReachedUptoRow.holds Try.pinned (OpenSpec.upto geometryReachedSpec)

/-- 'seismonetlaw25.TravelContains', WHERE WHAT IT READS IS OF BULK AT MOST 1048576: true; the input reads as it did. -/
def travelContainsUptoRow : OpenClaim := { program := "ytmmikihkfpkapaa", sum := "06b2a709cf8cc445b9102511b6bbc49989c50b1fe14245c3f00e11a7c6d15bcb", func := "seismonet/seismonetlaw25.TravelContains", spec := "travelContains", unfollowed := true, recurses := true, apart := false, narrowed := true }
def TravelContainsUptoSaid : Prop := travelContainsUptoRow.holds Try.pinned (OpenSpec.upto travelContainsSpec)

/-- 'seismonetlaw24.GeometryBoxes', WHERE WHAT IT READS IS OF BULK AT MOST 1048576: true; the input reads as it did. -/
def geometryBoxesUptoRow : OpenClaim := { program := "ytmmikihkfpkapaa", sum := "06b2a709cf8cc445b9102511b6bbc49989c50b1fe14245c3f00e11a7c6d15bcb", func := "seismonet/seismonetlaw24.GeometryBoxes", spec := "geometryBoxes", apart := false, narrowed := true }
def GeometryBoxesUptoSaid : Prop := geometryBoxesUptoRow.holds Try.pinned (OpenSpec.upto geometryBoxesSpec)

end Rows
end Go.Proofs.Ytmmikihkfpkapaa
