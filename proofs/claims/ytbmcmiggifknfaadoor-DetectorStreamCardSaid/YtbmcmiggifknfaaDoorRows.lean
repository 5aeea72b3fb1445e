/-
  NARROWER THAN 'FOR EVERY INPUT', by the rows' own cells (each row's printed sentence says how): DetectorStream: laid · DetectorPrefix: laid · DetectorScales: laid · DetectorTriggers: laid.
  DERIVED. THE GIVEN ROWS OF THIS SEAT. 4 by the template 'for every input the law returns true; each argument reads behind the call as it read before'; 0 by the template 'total and deterministic' (their statements: YtbmcmiggifknfaaDoorTotals.lean).
  GIVEN WITH THE SEED: the statements are not yours to turn. If you find one false, say at which input.
  Laid BY PROGRAM, IN A SANDBOX (cutbox-rows.mjs): the forced cells as the released guide's own fill.sh prints them over the translation a26c30eeeeed1a22… (all of the seat's roots in one cut). By AI agents, Wed Nov 11 2026. No macro, syntax, notation, axiom, sorry.
-/
import Derived.Test.YtbmcmiggifknfaaDoorChecked
import GoSem.Claim
import GoSem.ClaimJoined
import GoSem.ClaimMapViews
import Derived.JoinedTies
import Derived.KernelRfl
namespace Go.Proofs.YtbmcmiggifknfaaDoor
/- THE CELL 'sum', in the pinned program and in every row, IS THE sha256 OF THE DUMP (.gsa) THAT YtbmcmiggifknfaaDoorProg.lean LOADS. Nothing in Lean hashes anything: it is a label: what it is worth is what the hold of that sum in a sandbox is worth. -/
noncomputable def Tryd.pinned : Pinned := { name := "ytbmcmiggifknfaadoor", sum := "a26c30eeeeed1a22fc8523827f266770c39dac0c0ee15ef4d07efe14d908c531", checked := Tryd.checked }
namespace Rows
def none {H : Type} : Left H := { results := [], args := [] }

/- WHAT THE LISTED PACKAGE-LEVEL VARIABLES READ AS WHEN THE CALL BEGINS. Each datum BY PROGRAM (the guide's laid-datum.mjs) off the statement by which the dump's own 'gosem.cut.vars' lays the variable. In a bare row this is a premise. The card (YtbmcmiggifknfaaDoorCards.lean) ties it to the program's text. -/
def laid_seismonet_detector_closed {H : Type} : DataW H := .agg [.lit (.int .i64 (-1)), .lit (.int .i64 0), .lit (.int .i64 0)]

/-- 'seismonetlaw22.DetectorStream': WHATEVER THE INPUT: true; the input reads as it did. -/
def detectorStreamSpec : ChangeSpec := { name := "detectorStream", fn := fun _ => fun
  | [d] => { results := [.lit (.bool true)], args := [d] }
  | _ => none }
def detectorStreamRow : OpenClaim := { program := "ytbmcmiggifknfaadoor", sum := "a26c30eeeeed1a22fc8523827f266770c39dac0c0ee15ef4d07efe14d908c531", func := "seismonet/seismonetlaw22.DetectorStream", spec := "detectorStream", named := ["seismonet/detector.closed"], apart := false, laid := [("seismonet/detector.closed", laid_seismonet_detector_closed)] }
def DetectorStreamSaid : Prop := detectorStreamRow.holds Tryd.pinned (OpenSpec.ofChange detectorStreamSpec)

/-- ITS FALSE NEIGHBOUR: 'it returns false'. Refute it at one input. -/
def detectorStreamWrong : ChangeSpec := { name := "detectorStream", fn := fun _ => fun
  | [d] => { results := [.lit (.bool false)], args := [d] }
  | _ => none }
def DetectorStreamWrongFalsely : Prop := detectorStreamRow.holds Tryd.pinned (OpenSpec.ofChange detectorStreamWrong)

/-- 'seismonetlaw22.DetectorPrefix': WHATEVER THE INPUT: true; the input reads as it did. -/
def detectorPrefixSpec : ChangeSpec := { name := "detectorPrefix", fn := fun _ => fun
  | [d1, d2] => { results := [.lit (.bool true)], args := [d1, d2] }
  | _ => none }
def detectorPrefixRow : OpenClaim := { program := "ytbmcmiggifknfaadoor", sum := "a26c30eeeeed1a22fc8523827f266770c39dac0c0ee15ef4d07efe14d908c531", func := "seismonet/seismonetlaw22.DetectorPrefix", spec := "detectorPrefix", unfollowed := true, recurses := true, named := ["seismonet/detector.closed"], apart := false, laid := [("seismonet/detector.closed", laid_seismonet_detector_closed)] }
def DetectorPrefixSaid : Prop := detectorPrefixRow.holds Tryd.pinned (OpenSpec.ofChange detectorPrefixSpec)

/-- ITS FALSE NEIGHBOUR: 'it returns false'. Refute it at one input. -/
def detectorPrefixWrong : ChangeSpec := { name := "detectorPrefix", fn := fun _ => fun
  | [d1, d2] => { results := [.lit (.bool false)], args := [d1, d2] }
  | _ => none }
def DetectorPrefixWrongFalsely : Prop := detectorPrefixRow.holds Tryd.pinned (OpenSpec.ofChange detectorPrefixWrong)

/-- 'seismonetlaw22.DetectorScales': WHATEVER THE INPUT: true; the input reads as it did. -/
def detectorScalesSpec : ChangeSpec := { name := "detectorScales", fn := fun _ => fun
  | [d1, d2, d3] => { results := [.lit (.bool true)], args := [d1, d2, d3] }
  | _ => none }
def detectorScalesRow : OpenClaim := { program := "ytbmcmiggifknfaadoor", sum := "a26c30eeeeed1a22fc8523827f266770c39dac0c0ee15ef4d07efe14d908c531", func := "seismonet/seismonetlaw22.DetectorScales", spec := "detectorScales", named := ["seismonet/detector.closed"], apart := false, laid := [("seismonet/detector.closed", laid_seismonet_detector_closed)] }
def DetectorScalesSaid : Prop := detectorScalesRow.holds Tryd.pinned (OpenSpec.ofChange detectorScalesSpec)

/-- ITS FALSE NEIGHBOUR: 'it returns false'. Refute it at one input. -/
def detectorScalesWrong : ChangeSpec := { name := "detectorScales", fn := fun _ => fun
  | [d1, d2, d3] => { results := [.lit (.bool false)], args := [d1, d2, d3] }
  | _ => none }
def DetectorScalesWrongFalsely : Prop := detectorScalesRow.holds Tryd.pinned (OpenSpec.ofChange detectorScalesWrong)

/-- 'seismonetlaw22.DetectorTriggers': WHATEVER THE INPUT: true; the input reads as it did. -/
def detectorTriggersSpec : ChangeSpec := { name := "detectorTriggers", fn := fun _ => fun
  | [d] => { results := [.lit (.bool true)], args := [d] }
  | _ => none }
def detectorTriggersRow : OpenClaim := { program := "ytbmcmiggifknfaadoor", sum := "a26c30eeeeed1a22fc8523827f266770c39dac0c0ee15ef4d07efe14d908c531", func := "seismonet/seismonetlaw22.DetectorTriggers", spec := "detectorTriggers", unfollowed := true, recurses := true, named := ["seismonet/detector.closed"], apart := false, laid := [("seismonet/detector.closed", laid_seismonet_detector_closed)] }
def DetectorTriggersSaid : Prop := detectorTriggersRow.holds Tryd.pinned (OpenSpec.ofChange detectorTriggersSpec)

/-- ITS FALSE NEIGHBOUR: 'it returns false'. Refute it at one input. -/
def detectorTriggersWrong : ChangeSpec := { name := "detectorTriggers", fn := fun _ => fun
  | [d] => { results := [.lit (.bool false)], args := [d] }
  | _ => none }
def DetectorTriggersWrongFalsely : Prop := detectorTriggersRow.holds Tryd.pinned (OpenSpec.ofChange detectorTriggersWrong)

/- THE SECOND FORM. 'bulk': how many values and letters a reading holds, each counted each time it is reached (what is shared counts as often as it is met; a slice's spare places count too). A statement '..UptoSaid' is the law's where the arguments, and the package variables that the reading takes, are together of bulk at most 1048576: NARROWER than '..Said'. Prove '..Said' where nothing that the law and all that it calls make is longer than what came in: it says more and counts as full. Else prove '..UptoSaid'. A law counts once. -/
mutual
def uptoBulk {H : Type} : DataW H → Nat
  | .lit (.string bytes) => bytes.length + 1
  | .lit _ => 1
  | .nil => 1
  | .ptr d => uptoBulk d + 1
  | .slice elems spare => uptoBulkAll elems + uptoBulkAll spare + 1
  | .agg parts => uptoBulkAll parts + 1
  | .iface _ d => uptoBulk d + 1
  | .map entries => uptoBulkEntries entries + 1
  | .held _ => 1
def uptoBulkAll {H : Type} : List (DataW H) → Nat
  | [] => 0
  | d :: r => uptoBulk d + uptoBulkAll r
def uptoBulkEntries {H : Type} : List (Lit × DataW H) → Nat
  | [] => 0
  | x :: r => uptoBulkEntry x + uptoBulkEntries r
def uptoBulkEntry {H : Type} : Lit × DataW H → Nat
  | (.string bytes, d) => bytes.length + uptoBulk d + 1
  | (_, d) => uptoBulk d + 1
 end
def uptoSmall : (H : Type) → List (DataW H) → Bool := fun _ ds => decide (uptoBulkAll ds ≤ 1048576)
def OpenSpec.upto (s : _root_.Go.ChangeSpec) : _root_.Go.OpenSpec := { _root_.Go.OpenSpec.ofChange s with cond := some uptoSmall }

/-- 'seismonetlaw22.DetectorStream', WHERE WHAT IT READS IS OF BULK AT MOST 1048576: true; the input reads as it did. -/
def detectorStreamUptoRow : OpenClaim := { program := "ytbmcmiggifknfaadoor", sum := "a26c30eeeeed1a22fc8523827f266770c39dac0c0ee15ef4d07efe14d908c531", func := "seismonet/seismonetlaw22.DetectorStream", spec := "detectorStream", named := ["seismonet/detector.closed"], apart := false, laid := [("seismonet/detector.closed", laid_seismonet_detector_closed)], narrowed := true }
def DetectorStreamUptoSaid : Prop := detectorStreamUptoRow.holds Tryd.pinned (OpenSpec.upto detectorStreamSpec)

/-- 'seismonetlaw22.DetectorPrefix', WHERE WHAT IT READS IS OF BULK AT MOST 1048576: true; the input reads as it did. -/
def detectorPrefixUptoRow : OpenClaim := { program := "ytbmcmiggifknfaadoor", sum := "a26c30eeeeed1a22fc8523827f266770c39dac0c0ee15ef4d07efe14d908c531", func := "seismonet/seismonetlaw22.DetectorPrefix", spec := "detectorPrefix", unfollowed := true, recurses := true, named := ["seismonet/detector.closed"], apart := false, laid := [("seismonet/detector.closed", laid_seismonet_detector_closed)], narrowed := true }
def DetectorPrefixUptoSaid : Prop := detectorPrefixUptoRow.holds Tryd.pinned (OpenSpec.upto detectorPrefixSpec)

/-- 'seismonetlaw22.DetectorScales', WHERE WHAT IT READS IS OF BULK AT MOST 1048576: true; the input reads as it did. -/
def detectorScalesUptoRow : OpenClaim := { program := "ytbmcmiggifknfaadoor", sum := "a26c30eeeeed1a22fc8523827f266770c39dac0c0ee15ef4d07efe14d908c531", func := "seismonet/seismonetlaw22.DetectorScales", spec := "detectorScales", named := ["seismonet/detector.closed"], apart := false, laid := [("seismonet/detector.closed", laid_seismonet_detector_closed)], narrowed := true }
def DetectorScalesUptoSaid : Prop := detectorScalesUptoRow.holds Tryd.pinned (OpenSpec.upto detectorScalesSpec)

/-- 'seismonetlaw22.DetectorTriggers', WHERE WHAT IT READS IS OF BULK AT MOST 1048576: true; the input reads as it did. -/
def detectorTriggersUptoRow : OpenClaim := { program := "ytbmcmiggifknfaadoor", sum := "a26c30eeeeed1a22fc8523827f266770c39dac0c0ee15ef4d07efe14d908c531", func := "seismonet/seismonetlaw22.DetectorTriggers", spec := "detectorTriggers", unfollowed := true, recurses := true, named := ["seismonet/detector.closed"], apart := false, laid := [("seismonet/detector.closed", laid_seismonet_detector_closed)], narrowed := true }
def DetectorTriggersUptoSaid : Prop := detectorTriggersUptoRow.holds Tryd.pinned (OpenSpec.upto detectorTriggersSpec)

end Rows
end Go.Proofs.YtbmcmiggifknfaaDoor
