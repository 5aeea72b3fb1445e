/-
  No cell of these rows narrows 'for every input' (looked for: loops, veiled, ifaces, maps, wideKeys, modest, calm, conditions, laid).
  DERIVED. THE GIVEN ROWS OF THIS SEAT. 3 by the template 'for every input the law returns true; each argument reads behind the call as it read before'; 0 by the template 'total and deterministic' (their statements: YtjicjdnllnejcaaTotals.lean).
  GIVEN WITH THE SEED: the statements are not yours to turn. If you find one false, say at which input.
  Laid BY PROGRAM, IN A SANDBOX (cutbox-rows.mjs): the forced cells as the released guide's own fill.sh prints them over the translation 3917f4e1d68ed002… (all of the seat's roots in one cut). By AI agents, Wed Nov 11 2026. No macro, syntax, notation, axiom, sorry.
-/
import Derived.Test.YtjicjdnllnejcaaChecked
import GoSem.Claim
import GoSem.ClaimJoined
import GoSem.ClaimMapViews
import Derived.JoinedTies
import Derived.KernelRfl
namespace Go.Proofs.Ytjicjdnllnejcaa
/- THE CELL 'sum', in the pinned program and in every row, IS THE sha256 OF THE DUMP (.gsa) THAT YtjicjdnllnejcaaProg.lean LOADS. Nothing in Lean hashes anything: it is a label: what it is worth is what the hold of that sum in a sandbox is worth. -/
noncomputable def Try.pinned : Pinned := { name := "ytjicjdnllnejcaa", sum := "3917f4e1d68ed002b3595f7a42107c4a5448928b47e118b67dbebb23ad8f6397", checked := Try.checked }
namespace Rows
def none {H : Type} : Left H := { results := [], args := [] }

/-- 'seismonetlaw24.GeometryNumbers': WHATEVER THE INPUT: true; the input reads as it did. -/
def geometryNumbersSpec : ChangeSpec := { name := "geometryNumbers", fn := fun _ => fun
  | [d1, d2, d3, d4] => { results := [.lit (.bool true)], args := [d1, d2, d3, d4] }
  | _ => none }
def geometryNumbersRow : OpenClaim := { program := "ytjicjdnllnejcaa", sum := "3917f4e1d68ed002b3595f7a42107c4a5448928b47e118b67dbebb23ad8f6397", func := "seismonet/seismonetlaw24.GeometryNumbers", spec := "geometryNumbers", apart := false }
def GeometryNumbersSaid : Prop := geometryNumbersRow.holds Try.pinned (OpenSpec.ofChange geometryNumbersSpec)

/-- ITS FALSE NEIGHBOUR: 'it returns false'. Refute it at one input. -/
def geometryNumbersWrong : ChangeSpec := { name := "geometryNumbers", fn := fun _ => fun
  | [d1, d2, d3, d4] => { results := [.lit (.bool false)], args := [d1, d2, d3, d4] }
  | _ => none }
def GeometryNumbersWrongFalsely : Prop := geometryNumbersRow.holds Try.pinned (OpenSpec.ofChange geometryNumbersWrong)

/-- 'seismonetlaw24.GeometryBoxes': WHATEVER THE INPUT: true; the input reads as it did. -/
def geometryBoxesSpec : ChangeSpec := { name := "geometryBoxes", fn := fun _ => fun
  | [d1, d2, d3, d4] => { results := [.lit (.bool true)], args := [d1, d2, d3, d4] }
  | _ => none }
def geometryBoxesRow : OpenClaim := { program := "ytjicjdnllnejcaa", sum := "3917f4e1d68ed002b3595f7a42107c4a5448928b47e118b67dbebb23ad8f6397", func := "seismonet/seismonetlaw24.GeometryBoxes", spec := "geometryBoxes", apart := false }
def GeometryBoxesSaid : Prop := geometryBoxesRow.holds Try.pinned (OpenSpec.ofChange geometryBoxesSpec)

/-- ITS FALSE NEIGHBOUR: 'it returns false'. Refute it at one input. -/
def geometryBoxesWrong : ChangeSpec := { name := "geometryBoxes", fn := fun _ => fun
  | [d1, d2, d3, d4] => { results := [.lit (.bool false)], args := [d1, d2, d3, d4] }
  | _ => none }
def GeometryBoxesWrongFalsely : Prop := geometryBoxesRow.holds Try.pinned (OpenSpec.ofChange geometryBoxesWrong)

/-- 'seismonetlaw24.GeometryReached': WHATEVER THE INPUT: true; the input reads as it did. -/
def geometryReachedSpec : ChangeSpec := { name := "geometryReached", fn := fun _ => fun
  | [d] => { results := [.lit (.bool true)], args := [d] }
  | _ => none }
def geometryReachedRow : OpenClaim := { program := "ytjicjdnllnejcaa", sum := "3917f4e1d68ed002b3595f7a42107c4a5448928b47e118b67dbebb23ad8f6397", func := "seismonet/seismonetlaw24.GeometryReached", spec := "geometryReached", apart := false }
def GeometryReachedSaid : Prop := geometryReachedRow.holds Try.pinned (OpenSpec.ofChange geometryReachedSpec)

/-- ITS FALSE NEIGHBOUR: 'it returns false'. Refute it at one input. -/
def geometryReachedWrong : ChangeSpec := { name := "geometryReached", fn := fun _ => fun
  | [d] => { results := [.lit (.bool false)], args := [d] }
  | _ => none }
def GeometryReachedWrongFalsely : Prop := geometryReachedRow.holds Try.pinned (OpenSpec.ofChange geometryReachedWrong)

/- THE SECOND FORM. 'bulk': how many values and letters a reading holds, each counted each time it is reached (what is shared counts as often as it is met; a slice's spare places count too). A statement '..UptoSaid' is the law's where the arguments, and the package variables that the reading takes, are together of bulk at most 1048576: NARROWER than '..Said'. Prove '..Said' where nothing that the law and all that it calls make is longer than what came in: it says more and counts as full. Else prove '..UptoSaid'. A law counts once. -/
mutual
def uptoBulk {H : Type} : DataW H → Nat
  | .lit (.string bytes) => bytes.length + 1
  | .lit _ => 1
  | .nil => 1
  | .ptr d => uptoBulk d + 1
  | .slice elems spare => uptoBulkAll elems + uptoBulkAll spare + 1
  | .agg parts => uptoBulkAll parts + 1
  | .iface _ d => uptoBulk d + 1
  | .map entries => uptoBulkEntries entries + 1
  | .held _ => 1
def uptoBulkAll {H : Type} : List (DataW H) → Nat
  | [] => 0
  | d :: r => uptoBulk d + uptoBulkAll r
def uptoBulkEntries {H : Type} : List (Lit × DataW H) → Nat
  | [] => 0
  | x :: r => uptoBulkEntry x + uptoBulkEntries r
def uptoBulkEntry {H : Type} : Lit × DataW H → Nat
  | (.string bytes, d) => bytes.length + uptoBulk d + 1
  | (_, d) => uptoBulk d + 1
 end
def uptoSmall : (H : Type) → List (DataW H) → Bool := fun _ ds => decide (uptoBulkAll ds ≤ 1048576)
def OpenSpec.upto (s : _root_.Go.ChangeSpec) : _root_.Go.OpenSpec := { _root_.Go.OpenSpec.ofChange s with cond := some uptoSmall }

/-- 'seismonetlaw24.GeometryNumbers', WHERE WHAT IT READS IS OF BULK AT MOST 1048576: true; the input reads as it did. -/
def geometryNumbersUptoRow : OpenClaim := { program := "ytjicjdnllnejcaa", sum := "3917f4e1d68ed002b3595f7a42107c4a5448928b47e118b67dbebb23ad8f6397", func := "seismonet/seismonetlaw24.GeometryNumbers", spec := "geometryNumbers", apart := false, narrowed := true }
def GeometryNumbersUptoSaid : Prop := geometryNumbersUptoRow.holds Try.pinned (OpenSpec.upto geometryNumbersSpec)

/-- 'seismonetlaw24.GeometryBoxes', WHERE WHAT IT READS IS OF BULK AT MOST 1048576: true; the input reads as it did. -/
def geometryBoxesUptoRow : OpenClaim := { program := "ytjicjdnllnejcaa", sum := "3917f4e1d68ed002b3595f7a42107c4a5448928b47e118b67dbebb23ad8f6397", func := "seismonet/seismonetlaw24.GeometryBoxes", spec := "geometryBoxes", apart := false, narrowed := true }
def GeometryBoxesUptoSaid : Prop := geometryBoxesUptoRow.holds Try.pinned (OpenSpec.upto geometryBoxesSpec)

/-- 'seismonetlaw24.GeometryReached', WHERE WHAT IT READS IS OF BULK AT MOST 1048576: true; the input reads as it did. -/
def geometryReachedUptoRow : OpenClaim := { program := "ytjicjdnllnejcaa", sum := "3917f4e1d68ed002b3595f7a42107c4a5448928b47e118b67dbebb23ad8f6397", func := "seismonet/seismonetlaw24.GeometryReached", spec := "geometryReached", apart := false, narrowed := true }
def GeometryReachedUptoSaid : Prop := geometryReachedUptoRow.holds Try.pinned (OpenSpec.upto geometryReachedSpec)

end Rows
end Go.Proofs.Ytjicjdnllnejcaa
