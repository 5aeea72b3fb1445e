/-
  No cell of these rows narrows 'for every input' (looked for: loops, veiled, ifaces, maps, wideKeys, modest, calm, conditions, laid).
  DERIVED. THE GIVEN ROWS OF THIS SEAT. 4 by the template 'for every input the law returns true; each argument reads behind the call as it read before'; 0 by the template 'total and deterministic' (their statements: YtkoojgmfnelaiaaTotals.lean).
  GIVEN WITH THE SEED: the statements are not yours to turn. If you find one false, say at which input.
  Laid BY PROGRAM, IN A SANDBOX (cutbox-rows.mjs): the forced cells as the released guide's own fill.sh prints them over the translation 404e50f87e74c792… (all of the seat's roots in one cut). By AI agents, Wed Nov 11 2026. No macro, syntax, notation, axiom, sorry.
-/
import Derived.Test.YtkoojgmfnelaiaaChecked
import GoSem.Claim
import GoSem.ClaimJoined
import GoSem.ClaimMapViews
import Derived.JoinedTies
import Derived.KernelRfl
namespace Go.Proofs.Ytkoojgmfnelaiaa
/- THE CELL 'sum', in the pinned program and in every row, IS THE sha256 OF THE DUMP (.gsa) THAT YtkoojgmfnelaiaaProg.lean LOADS. Nothing in Lean hashes anything: it is a label: what it is worth is what the hold of that sum in a sandbox is worth. -/
noncomputable def Try.pinned : Pinned := { name := "ytkoojgmfnelaiaa", sum := "404e50f87e74c79295b2ef8fb762e6f961ccfd4c627c7c54f627b0373fbd9661", checked := Try.checked }
namespace Rows
def none {H : Type} : Left H := { results := [], args := [] }

/-- 'seismonetlaw21.FilterStages': WHATEVER THE INPUT: true; the input reads as it did. -/
def filterStagesSpec : ChangeSpec := { name := "filterStages", fn := fun _ => fun
  | [d] => { results := [.lit (.bool true)], args := [d] }
  | _ => none }
def filterStagesRow : OpenClaim := { program := "ytkoojgmfnelaiaa", sum := "404e50f87e74c79295b2ef8fb762e6f961ccfd4c627c7c54f627b0373fbd9661", func := "seismonet/seismonetlaw21.FilterStages", spec := "filterStages", apart := false }
def FilterStagesSaid : Prop := filterStagesRow.holds Try.pinned (OpenSpec.ofChange filterStagesSpec)

/-- ITS FALSE NEIGHBOUR: 'it returns false'. Refute it at one input. -/
def filterStagesWrong : ChangeSpec := { name := "filterStages", fn := fun _ => fun
  | [d] => { results := [.lit (.bool false)], args := [d] }
  | _ => none }
def FilterStagesWrongFalsely : Prop := filterStagesRow.holds Try.pinned (OpenSpec.ofChange filterStagesWrong)

/-- 'seismonetlaw21.FilterStream': WHATEVER THE INPUT: true; the input reads as it did. -/
def filterStreamSpec : ChangeSpec := { name := "filterStream", fn := fun _ => fun
  | [d1, d2] => { results := [.lit (.bool true)], args := [d1, d2] }
  | _ => none }
def filterStreamRow : OpenClaim := { program := "ytkoojgmfnelaiaa", sum := "404e50f87e74c79295b2ef8fb762e6f961ccfd4c627c7c54f627b0373fbd9661", func := "seismonet/seismonetlaw21.FilterStream", spec := "filterStream", apart := false }
def FilterStreamSaid : Prop := filterStreamRow.holds Try.pinned (OpenSpec.ofChange filterStreamSpec)

/-- ITS FALSE NEIGHBOUR: 'it returns false'. Refute it at one input. -/
def filterStreamWrong : ChangeSpec := { name := "filterStream", fn := fun _ => fun
  | [d1, d2] => { results := [.lit (.bool false)], args := [d1, d2] }
  | _ => none }
def FilterStreamWrongFalsely : Prop := filterStreamRow.holds Try.pinned (OpenSpec.ofChange filterStreamWrong)

/-- 'seismonetlaw21.FilterLate': WHATEVER THE INPUT: true; the input reads as it did. -/
def filterLateSpec : ChangeSpec := { name := "filterLate", fn := fun _ => fun
  | [d1, d2] => { results := [.lit (.bool true)], args := [d1, d2] }
  | _ => none }
def filterLateRow : OpenClaim := { program := "ytkoojgmfnelaiaa", sum := "404e50f87e74c79295b2ef8fb762e6f961ccfd4c627c7c54f627b0373fbd9661", func := "seismonet/seismonetlaw21.FilterLate", spec := "filterLate", apart := false }
def FilterLateSaid : Prop := filterLateRow.holds Try.pinned (OpenSpec.ofChange filterLateSpec)

/-- ITS FALSE NEIGHBOUR: 'it returns false'. Refute it at one input. -/
def filterLateWrong : ChangeSpec := { name := "filterLate", fn := fun _ => fun
  | [d1, d2] => { results := [.lit (.bool false)], args := [d1, d2] }
  | _ => none }
def FilterLateWrongFalsely : Prop := filterLateRow.holds Try.pinned (OpenSpec.ofChange filterLateWrong)

/-- 'seismonetlaw02.RateNearest': WHATEVER THE INPUT: true; the input reads as it did. -/
def rateNearestSpec : ChangeSpec := { name := "rateNearest", fn := fun _ => fun
  | [d1, d2, d3] => { results := [.lit (.bool true)], args := [d1, d2, d3] }
  | _ => none }
def rateNearestRow : OpenClaim := { program := "ytkoojgmfnelaiaa", sum := "404e50f87e74c79295b2ef8fb762e6f961ccfd4c627c7c54f627b0373fbd9661", func := "seismonet/seismonetlaw02.RateNearest", spec := "rateNearest", apart := false }
def RateNearestSaid : Prop := rateNearestRow.holds Try.pinned (OpenSpec.ofChange rateNearestSpec)

/-- ITS FALSE NEIGHBOUR: 'it returns false'. Refute it at one input. -/
def rateNearestWrong : ChangeSpec := { name := "rateNearest", fn := fun _ => fun
  | [d1, d2, d3] => { results := [.lit (.bool false)], args := [d1, d2, d3] }
  | _ => none }
def RateNearestWrongFalsely : Prop := rateNearestRow.holds Try.pinned (OpenSpec.ofChange rateNearestWrong)

/- THE SECOND FORM. 'bulk': how many values and letters a reading holds, each counted each time it is reached (what is shared counts as often as it is met; a slice's spare places count too). A statement '..UptoSaid' is the law's where the arguments, and the package variables that the reading takes, are together of bulk at most 1048576: NARROWER than '..Said'. Prove '..Said' where nothing that the law and all that it calls make is longer than what came in: it says more and counts as full. Else prove '..UptoSaid'. A law counts once. -/
mutual
def uptoBulk {H : Type} : DataW H → Nat
  | .lit (.string bytes) => bytes.length + 1
  | .lit _ => 1
  | .nil => 1
  | .ptr d => uptoBulk d + 1
  | .slice elems spare => uptoBulkAll elems + uptoBulkAll spare + 1
  | .agg parts => uptoBulkAll parts + 1
  | .iface _ d => uptoBulk d + 1
  | .map entries => uptoBulkEntries entries + 1
  | .held _ => 1
def uptoBulkAll {H : Type} : List (DataW H) → Nat
  | [] => 0
  | d :: r => uptoBulk d + uptoBulkAll r
def uptoBulkEntries {H : Type} : List (Lit × DataW H) → Nat
  | [] => 0
  | x :: r => uptoBulkEntry x + uptoBulkEntries r
def uptoBulkEntry {H : Type} : Lit × DataW H → Nat
  | (.string bytes, d) => bytes.length + uptoBulk d + 1
  | (_, d) => uptoBulk d + 1
 end
def uptoSmall : (H : Type) → List (DataW H) → Bool := fun _ ds => decide (uptoBulkAll ds ≤ 1048576)
def OpenSpec.upto (s : _root_.Go.ChangeSpec) : _root_.Go.OpenSpec := { _root_.Go.OpenSpec.ofChange s with cond := some uptoSmall }

/-- 'seismonetlaw21.FilterStages', WHERE WHAT IT READS IS OF BULK AT MOST 1048576: true; the input reads as it did. -/
def filterStagesUptoRow : OpenClaim := { program := "ytkoojgmfnelaiaa", sum := "404e50f87e74c79295b2ef8fb762e6f961ccfd4c627c7c54f627b0373fbd9661", func := "seismonet/seismonetlaw21.FilterStages", spec := "filterStages", apart := false, narrowed := true }
def FilterStagesUptoSaid : Prop := filterStagesUptoRow.holds Try.pinned (OpenSpec.upto filterStagesSpec)

/-- 'seismonetlaw21.FilterStream', WHERE WHAT IT READS IS OF BULK AT MOST 1048576: true; the input reads as it did. -/
def filterStreamUptoRow : OpenClaim := { program := "ytkoojgmfnelaiaa", sum := "404e50f87e74c79295b2ef8fb762e6f961ccfd4c627c7c54f627b0373fbd9661", func := "seismonet/seismonetlaw21.FilterStream", spec := "filterStream", apart := false, narrowed := true }
def FilterStreamUptoSaid : Prop := filterStreamUptoRow.holds Try.pinned (OpenSpec.upto filterStreamSpec)

/-- 'seismonetlaw21.FilterLate', WHERE WHAT IT READS IS OF BULK AT MOST 1048576: true; the input reads as it did. -/
def filterLateUptoRow : OpenClaim := { program := "ytkoojgmfnelaiaa", sum := "404e50f87e74c79295b2ef8fb762e6f961ccfd4c627c7c54f627b0373fbd9661", func := "seismonet/seismonetlaw21.FilterLate", spec := "filterLate", apart := false, narrowed := true }
def FilterLateUptoSaid : Prop := filterLateUptoRow.holds Try.pinned (OpenSpec.upto filterLateSpec)

/-- 'seismonetlaw02.RateNearest', WHERE WHAT IT READS IS OF BULK AT MOST 1048576: true; the input reads as it did. -/
def rateNearestUptoRow : OpenClaim := { program := "ytkoojgmfnelaiaa", sum := "404e50f87e74c79295b2ef8fb762e6f961ccfd4c627c7c54f627b0373fbd9661", func := "seismonet/seismonetlaw02.RateNearest", spec := "rateNearest", apart := false, narrowed := true }
def RateNearestUptoSaid : Prop := rateNearestUptoRow.holds Try.pinned (OpenSpec.upto rateNearestSpec)

end Rows
end Go.Proofs.Ytkoojgmfnelaiaa
