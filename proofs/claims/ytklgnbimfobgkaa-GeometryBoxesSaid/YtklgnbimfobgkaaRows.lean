/-
  No cell of these rows narrows 'for every input' (looked for: loops, veiled, ifaces, maps, wideKeys, modest, calm, conditions, laid).
  DERIVED. THE GIVEN ROWS OF THIS SEAT. 5 by the template 'for every input the law returns true; each argument reads behind the call as it read before'; 0 by the template 'total and deterministic' (their statements: YtklgnbimfobgkaaTotals.lean).
  GIVEN WITH THE SEED: the statements are not yours to turn. If you find one false, say at which input.
  Laid BY PROGRAM, IN A SANDBOX (cutbox-rows.mjs): the forced cells as the released guide's own fill.sh prints them over the translation fd615ca1ba57537b… (all of the seat's roots in one cut). By AI agents, Wed Nov 11 2026. No macro, syntax, notation, axiom, sorry.
-/
import Derived.Test.YtklgnbimfobgkaaChecked
import GoSem.Claim
import GoSem.ClaimJoined
import GoSem.ClaimMapViews
import Derived.JoinedTies
import Derived.KernelRfl
namespace Go.Proofs.Ytklgnbimfobgkaa
/- THE CELL 'sum', in the pinned program and in every row, IS THE sha256 OF THE DUMP (.gsa) THAT YtklgnbimfobgkaaProg.lean LOADS. Nothing in Lean hashes anything: it is a label: what it is worth is what the hold of that sum in a sandbox is worth. -/
noncomputable def Try.pinned : Pinned := { name := "ytklgnbimfobgkaa", sum := "fd615ca1ba57537b88efb993115a9ca4cb99e4095777ecd03d2378bf48c757d2", checked := Try.checked }
namespace Rows
def none {H : Type} : Left H := { results := [], args := [] }

/-- 'seismonetlaw24.GeometryBoxes': WHATEVER THE INPUT: true; the input reads as it did. -/
def geometryBoxesSpec : ChangeSpec := { name := "geometryBoxes", fn := fun _ => fun
  | [d1, d2, d3, d4] => { results := [.lit (.bool true)], args := [d1, d2, d3, d4] }
  | _ => none }
def geometryBoxesRow : OpenClaim := { program := "ytklgnbimfobgkaa", sum := "fd615ca1ba57537b88efb993115a9ca4cb99e4095777ecd03d2378bf48c757d2", func := "seismonet/seismonetlaw24.GeometryBoxes", spec := "geometryBoxes", apart := false }
def GeometryBoxesSaid : Prop := geometryBoxesRow.holds Try.pinned (OpenSpec.ofChange geometryBoxesSpec)

/-- ITS FALSE NEIGHBOUR: 'it returns false'. Refute it at one input. -/
def geometryBoxesWrong : ChangeSpec := { name := "geometryBoxes", fn := fun _ => fun
  | [d1, d2, d3, d4] => { results := [.lit (.bool false)], args := [d1, d2, d3, d4] }
  | _ => none }
def GeometryBoxesWrongFalsely : Prop := geometryBoxesRow.holds Try.pinned (OpenSpec.ofChange geometryBoxesWrong)

/-- 'seismonetlaw24.GeometryNumbers': WHATEVER THE INPUT: true; the input reads as it did. -/
def geometryNumbersSpec : ChangeSpec := { name := "geometryNumbers", fn := fun _ => fun
  | [d1, d2, d3, d4] => { results := [.lit (.bool true)], args := [d1, d2, d3, d4] }
  | _ => none }
def geometryNumbersRow : OpenClaim := { program := "ytklgnbimfobgkaa", sum := "fd615ca1ba57537b88efb993115a9ca4cb99e4095777ecd03d2378bf48c757d2", func := "seismonet/seismonetlaw24.GeometryNumbers", spec := "geometryNumbers", apart := false }
def GeometryNumbersSaid : Prop := geometryNumbersRow.holds Try.pinned (OpenSpec.ofChange geometryNumbersSpec)

/-- ITS FALSE NEIGHBOUR: 'it returns false'. Refute it at one input. -/
def geometryNumbersWrong : ChangeSpec := { name := "geometryNumbers", fn := fun _ => fun
  | [d1, d2, d3, d4] => { results := [.lit (.bool false)], args := [d1, d2, d3, d4] }
  | _ => none }
def GeometryNumbersWrongFalsely : Prop := geometryNumbersRow.holds Try.pinned (OpenSpec.ofChange geometryNumbersWrong)

/-- 'seismonetlaw24.GeometryReached': WHATEVER THE INPUT: true; the input reads as it did. -/
def geometryReachedSpec : ChangeSpec := { name := "geometryReached", fn := fun _ => fun
  | [d] => { results := [.lit (.bool true)], args := [d] }
  | _ => none }
def geometryReachedRow : OpenClaim := { program := "ytklgnbimfobgkaa", sum := "fd615ca1ba57537b88efb993115a9ca4cb99e4095777ecd03d2378bf48c757d2", func := "seismonet/seismonetlaw24.GeometryReached", spec := "geometryReached", apart := false }
def GeometryReachedSaid : Prop := geometryReachedRow.holds Try.pinned (OpenSpec.ofChange geometryReachedSpec)

/-- ITS FALSE NEIGHBOUR: 'it returns false'. Refute it at one input. -/
def geometryReachedWrong : ChangeSpec := { name := "geometryReached", fn := fun _ => fun
  | [d] => { results := [.lit (.bool false)], args := [d] }
  | _ => none }
def GeometryReachedWrongFalsely : Prop := geometryReachedRow.holds Try.pinned (OpenSpec.ofChange geometryReachedWrong)

/-- 'seismonetlaw24.GeometrySplits': WHATEVER THE INPUT: true; the input reads as it did. -/
def geometrySplitsSpec : ChangeSpec := { name := "geometrySplits", fn := fun _ => fun
  | [d] => { results := [.lit (.bool true)], args := [d] }
  | _ => none }
def geometrySplitsRow : OpenClaim := { program := "ytklgnbimfobgkaa", sum := "fd615ca1ba57537b88efb993115a9ca4cb99e4095777ecd03d2378bf48c757d2", func := "seismonet/seismonetlaw24.GeometrySplits", spec := "geometrySplits", apart := false }
def GeometrySplitsSaid : Prop := geometrySplitsRow.holds Try.pinned (OpenSpec.ofChange geometrySplitsSpec)

/-- ITS FALSE NEIGHBOUR: 'it returns false'. Refute it at one input. -/
def geometrySplitsWrong : ChangeSpec := { name := "geometrySplits", fn := fun _ => fun
  | [d] => { results := [.lit (.bool false)], args := [d] }
  | _ => none }
def GeometrySplitsWrongFalsely : Prop := geometrySplitsRow.holds Try.pinned (OpenSpec.ofChange geometrySplitsWrong)

/-- 'seismonetlaw24.GeometryHull': WHATEVER THE INPUT: true; the input reads as it did. -/
def geometryHullSpec : ChangeSpec := { name := "geometryHull", fn := fun _ => fun
  | [d] => { results := [.lit (.bool true)], args := [d] }
  | _ => none }
def geometryHullRow : OpenClaim := { program := "ytklgnbimfobgkaa", sum := "fd615ca1ba57537b88efb993115a9ca4cb99e4095777ecd03d2378bf48c757d2", func := "seismonet/seismonetlaw24.GeometryHull", spec := "geometryHull", apart := false }
def GeometryHullSaid : Prop := geometryHullRow.holds Try.pinned (OpenSpec.ofChange geometryHullSpec)

/-- ITS FALSE NEIGHBOUR: 'it returns false'. Refute it at one input. -/
def geometryHullWrong : ChangeSpec := { name := "geometryHull", fn := fun _ => fun
  | [d] => { results := [.lit (.bool false)], args := [d] }
  | _ => none }
def GeometryHullWrongFalsely : Prop := geometryHullRow.holds Try.pinned (OpenSpec.ofChange geometryHullWrong)

/- THE SECOND FORM. 'bulk': how many values and letters a reading holds, each counted each time it is reached (what is shared counts as often as it is met; a slice's spare places count too). A statement '..UptoSaid' is the law's where the arguments, and the package variables that the reading takes, are together of bulk at most 1048576: NARROWER than '..Said'. Prove '..Said' where nothing that the law and all that it calls make is longer than what came in: it says more and counts as full. Else prove '..UptoSaid'. A law counts once. -/
mutual
def uptoBulk {H : Type} : DataW H → Nat
  | .lit (.string bytes) => bytes.length + 1
  | .lit _ => 1
  | .nil => 1
  | .ptr d => uptoBulk d + 1
  | .slice elems spare => uptoBulkAll elems + uptoBulkAll spare + 1
  | .agg parts => uptoBulkAll parts + 1
  | .iface _ d => uptoBulk d + 1
  | .map entries => uptoBulkEntries entries + 1
  | .held _ => 1
def uptoBulkAll {H : Type} : List (DataW H) → Nat
  | [] => 0
  | d :: r => uptoBulk d + uptoBulkAll r
def uptoBulkEntries {H : Type} : List (Lit × DataW H) → Nat
  | [] => 0
  | x :: r => uptoBulkEntry x + uptoBulkEntries r
def uptoBulkEntry {H : Type} : Lit × DataW H → Nat
  | (.string bytes, d) => bytes.length + uptoBulk d + 1
  | (_, d) => uptoBulk d + 1
 end
def uptoSmall : (H : Type) → List (DataW H) → Bool := fun _ ds => decide (uptoBulkAll ds ≤ 1048576)
def OpenSpec.upto (s : _root_.Go.ChangeSpec) : _root_.Go.OpenSpec := { _root_.Go.OpenSpec.ofChange s with cond := some uptoSmall }

/-- 'seismonetlaw24.GeometryBoxes', WHERE WHAT IT READS IS OF BULK AT MOST 1048576: true; the input reads as it did. -/
def geometryBoxesUptoRow : OpenClaim := { program := "ytklgnbimfobgkaa", sum := "fd615ca1ba57537b88efb993115a9ca4cb99e4095777ecd03d2378bf48c757d2", func := "seismonet/seismonetlaw24.GeometryBoxes", spec := "geometryBoxes", apart := false, narrowed := true }
def GeometryBoxesUptoSaid : Prop := geometryBoxesUptoRow.holds Try.pinned (OpenSpec.upto geometryBoxesSpec)

/-- 'seismonetlaw24.GeometryNumbers', WHERE WHAT IT READS IS OF BULK AT MOST 1048576: true; the input reads as it did. -/
def geometryNumbersUptoRow : OpenClaim := { program := "ytklgnbimfobgkaa", sum := "fd615ca1ba57537b88efb993115a9ca4cb99e4095777ecd03d2378bf48c757d2", func := "seismonet/seismonetlaw24.GeometryNumbers", spec := "geometryNumbers", apart := false, narrowed := true }
def GeometryNumbersUptoSaid : Prop := geometryNumbersUptoRow.holds Try.pinned (OpenSpec.upto geometryNumbersSpec)

/-- 'seismonetlaw24.GeometryReached', WHERE WHAT IT READS IS OF BULK AT MOST 1048576: true; the input reads as it did. -/
def geometryReachedUptoRow : OpenClaim := { program := "ytklgnbimfobgkaa", sum := "fd615ca1ba57537b88efb993115a9ca4cb99e4095777ecd03d2378bf48c757d2", func := "seismonet/seismonetlaw24.GeometryReached", spec := "geometryReached", apart := false, narrowed := true }
def GeometryReachedUptoSaid : Prop := geometryReachedUptoRow.holds Try.pinned (OpenSpec.upto geometryReachedSpec)

/-- 'seismonetlaw24.GeometrySplits', WHERE WHAT IT READS IS OF BULK AT MOST 1048576: true; the input reads as it did. -/
def geometrySplitsUptoRow : OpenClaim := { program := "ytklgnbimfobgkaa", sum := "fd615ca1ba57537b88efb993115a9ca4cb99e4095777ecd03d2378bf48c757d2", func := "seismonet/seismonetlaw24.GeometrySplits", spec := "geometrySplits", apart := false, narrowed := true }
def GeometrySplitsUptoSaid : Prop := geometrySplitsUptoRow.holds Try.pinned (OpenSpec.upto geometrySplitsSpec)

/-- 'seismonetlaw24.GeometryHull', WHERE WHAT IT READS IS OF BULK AT MOST 1048576: true; the input reads as it did. -/
def geometryHullUptoRow : OpenClaim := { program := "ytklgnbimfobgkaa", sum := "fd615ca1ba57537b88efb993115a9ca4cb99e4095777ecd03d2378bf48c757d2", func := "seismonet/seismonetlaw24.GeometryHull", spec := "geometryHull", apart := false, narrowed := true }
def GeometryHullUptoSaid : Prop := geometryHullUptoRow.holds Try.pinned (OpenSpec.upto geometryHullSpec)

end Rows
end Go.Proofs.Ytklgnbimfobgkaa
