/-
  No cell of these rows narrows 'for every input' (looked for: loops, veiled, ifaces, maps, wideKeys, modest, calm, conditions, laid).
  DERIVED. THE GIVEN ROWS OF THIS SEAT. 4 by the template 'for every input the law returns true; each argument reads behind the call as it read before'; 0 by the template 'total and deterministic' (their statements: YtdcjpjdkamlheaaTotals.lean).
  GIVEN WITH THE SEED: the statements are not yours to turn. If you find one false, say at which input.
  Laid BY PROGRAM, IN A SANDBOX (cutbox-rows.mjs): the forced cells as the released guide's own fill.sh prints them over the translation ff53d288fdf6f8d4… (all of the seat's roots in one cut). By AI agents, Wed Nov 11 2026. No macro, syntax, notation, axiom, sorry.
-/
import Derived.Test.YtdcjpjdkamlheaaChecked
import GoSem.Claim
import GoSem.ClaimJoined
import GoSem.ClaimMapViews
import Derived.JoinedTies
import Derived.KernelRfl
namespace Go.Proofs.Ytdcjpjdkamlheaa
/- THE CELL 'sum', in the pinned program and in every row, IS THE sha256 OF THE DUMP (.gsa) THAT YtdcjpjdkamlheaaProg.lean LOADS. Nothing in Lean hashes anything: it is a label: what it is worth is what the hold of that sum in a sandbox is worth. -/
noncomputable def Try.pinned : Pinned := { name := "ytdcjpjdkamlheaa", sum := "ff53d288fdf6f8d4ec88e4403dfb8ec80158ac1680678d5556d3579fa22fb996", checked := Try.checked }
namespace Rows
def none {H : Type} : Left H := { results := [], args := [] }

/-- 'seismonetlaw13.ClockRecords': WHATEVER THE INPUT: true; the input reads as it did. -/
def clockRecordsSpec : ChangeSpec := { name := "clockRecords", fn := fun _ => fun
  | [d1, d2] => { results := [.lit (.bool true)], args := [d1, d2] }
  | _ => none }
def clockRecordsRow : OpenClaim := { program := "ytdcjpjdkamlheaa", sum := "ff53d288fdf6f8d4ec88e4403dfb8ec80158ac1680678d5556d3579fa22fb996", func := "seismonet/seismonetlaw13.ClockRecords", spec := "clockRecords", apart := false }
def ClockRecordsSaid : Prop := clockRecordsRow.holds Try.pinned (OpenSpec.ofChange clockRecordsSpec)

/-- ITS FALSE NEIGHBOUR: 'it returns false'. Refute it at one input. -/
def clockRecordsWrong : ChangeSpec := { name := "clockRecords", fn := fun _ => fun
  | [d1, d2] => { results := [.lit (.bool false)], args := [d1, d2] }
  | _ => none }
def ClockRecordsWrongFalsely : Prop := clockRecordsRow.holds Try.pinned (OpenSpec.ofChange clockRecordsWrong)

/-- 'seismonetlaw13.ClockTrue': WHATEVER THE INPUT: true; the input reads as it did. -/
def clockTrueSpec : ChangeSpec := { name := "clockTrue", fn := fun _ => fun
  | [d1, d2] => { results := [.lit (.bool true)], args := [d1, d2] }
  | _ => none }
def clockTrueRow : OpenClaim := { program := "ytdcjpjdkamlheaa", sum := "ff53d288fdf6f8d4ec88e4403dfb8ec80158ac1680678d5556d3579fa22fb996", func := "seismonet/seismonetlaw13.ClockTrue", spec := "clockTrue", apart := false }
def ClockTrueSaid : Prop := clockTrueRow.holds Try.pinned (OpenSpec.ofChange clockTrueSpec)

/-- ITS FALSE NEIGHBOUR: 'it returns false'. Refute it at one input. -/
def clockTrueWrong : ChangeSpec := { name := "clockTrue", fn := fun _ => fun
  | [d1, d2] => { results := [.lit (.bool false)], args := [d1, d2] }
  | _ => none }
def ClockTrueWrongFalsely : Prop := clockTrueRow.holds Try.pinned (OpenSpec.ofChange clockTrueWrong)

/-- 'seismonetlaw02.RateNearest': WHATEVER THE INPUT: true; the input reads as it did. -/
def rateNearestSpec : ChangeSpec := { name := "rateNearest", fn := fun _ => fun
  | [d1, d2, d3] => { results := [.lit (.bool true)], args := [d1, d2, d3] }
  | _ => none }
def rateNearestRow : OpenClaim := { program := "ytdcjpjdkamlheaa", sum := "ff53d288fdf6f8d4ec88e4403dfb8ec80158ac1680678d5556d3579fa22fb996", func := "seismonet/seismonetlaw02.RateNearest", spec := "rateNearest", apart := false }
def RateNearestSaid : Prop := rateNearestRow.holds Try.pinned (OpenSpec.ofChange rateNearestSpec)

/-- ITS FALSE NEIGHBOUR: 'it returns false'. Refute it at one input. -/
def rateNearestWrong : ChangeSpec := { name := "rateNearest", fn := fun _ => fun
  | [d1, d2, d3] => { results := [.lit (.bool false)], args := [d1, d2, d3] }
  | _ => none }
def RateNearestWrongFalsely : Prop := rateNearestRow.holds Try.pinned (OpenSpec.ofChange rateNearestWrong)

/-- 'seismonetlaw02.RateAscends': WHATEVER THE INPUT: true; the input reads as it did. -/
def rateAscendsSpec : ChangeSpec := { name := "rateAscends", fn := fun _ => fun
  | [d1, d2, d3] => { results := [.lit (.bool true)], args := [d1, d2, d3] }
  | _ => none }
def rateAscendsRow : OpenClaim := { program := "ytdcjpjdkamlheaa", sum := "ff53d288fdf6f8d4ec88e4403dfb8ec80158ac1680678d5556d3579fa22fb996", func := "seismonet/seismonetlaw02.RateAscends", spec := "rateAscends", apart := false }
def RateAscendsSaid : Prop := rateAscendsRow.holds Try.pinned (OpenSpec.ofChange rateAscendsSpec)

/-- ITS FALSE NEIGHBOUR: 'it returns false'. Refute it at one input. -/
def rateAscendsWrong : ChangeSpec := { name := "rateAscends", fn := fun _ => fun
  | [d1, d2, d3] => { results := [.lit (.bool false)], args := [d1, d2, d3] }
  | _ => none }
def RateAscendsWrongFalsely : Prop := rateAscendsRow.holds Try.pinned (OpenSpec.ofChange rateAscendsWrong)

/- THE SECOND FORM. 'bulk': how many values and letters a reading holds, each counted each time it is reached (what is shared counts as often as it is met; a slice's spare places count too). A statement '..UptoSaid' is the law's where the arguments, and the package variables that the reading takes, are together of bulk at most 1048576: NARROWER than '..Said'. Prove '..Said' where nothing that the law and all that it calls make is longer than what came in: it says more and counts as full. Else prove '..UptoSaid'. A law counts once. -/
mutual
def uptoBulk {H : Type} : DataW H → Nat
  | .lit (.string bytes) => bytes.length + 1
  | .lit _ => 1
  | .nil => 1
  | .ptr d => uptoBulk d + 1
  | .slice elems spare => uptoBulkAll elems + uptoBulkAll spare + 1
  | .agg parts => uptoBulkAll parts + 1
  | .iface _ d => uptoBulk d + 1
  | .map entries => uptoBulkEntries entries + 1
  | .held _ => 1
def uptoBulkAll {H : Type} : List (DataW H) → Nat
  | [] => 0
  | d :: r => uptoBulk d + uptoBulkAll r
def uptoBulkEntries {H : Type} : List (Lit × DataW H) → Nat
  | [] => 0
  | x :: r => uptoBulkEntry x + uptoBulkEntries r
def uptoBulkEntry {H : Type} : Lit × DataW H → Nat
  | (.string bytes, d) => bytes.length + uptoBulk d + 1
  | (_, d) => uptoBulk d + 1
 end
def uptoSmall : (H : Type) → List (DataW H) → Bool := fun _ ds => decide (uptoBulkAll ds ≤ 1048576)
def OpenSpec.upto (s : _root_.Go.ChangeSpec) : _root_.Go.OpenSpec := { _root_.Go.OpenSpec.ofChange s with cond := some uptoSmall }

/-- 'seismonetlaw13.ClockRecords', WHERE WHAT IT READS IS OF BULK AT MOST 1048576: true; the input reads as it did. -/
def clockRecordsUptoRow : OpenClaim := { program := "ytdcjpjdkamlheaa", sum := "ff53d288fdf6f8d4ec88e4403dfb8ec80158ac1680678d5556d3579fa22fb996", func := "seismonet/seismonetlaw13.ClockRecords", spec := "clockRecords", apart := false, narrowed := true }
def ClockRecordsUptoSaid : Prop := clockRecordsUptoRow.holds Try.pinned (OpenSpec.upto clockRecordsSpec)

/-- 'seismonetlaw13.ClockTrue', WHERE WHAT IT READS IS OF BULK AT MOST 1048576: true; the input reads as it did. -/
def clockTrueUptoRow : OpenClaim := { program := "ytdcjpjdkamlheaa", sum := "ff53d288fdf6f8d4ec88e4403dfb8ec80158ac1680678d5556d3579fa22fb996", func := "seismonet/seismonetlaw13.ClockTrue", spec := "clockTrue", apart := false, narrowed := true }
def ClockTrueUptoSaid : Prop := clockTrueUptoRow.holds Try.pinned (OpenSpec.upto clockTrueSpec)

/-- 'seismonetlaw02.RateNearest', WHERE WHAT IT READS IS OF BULK AT MOST 1048576: true; the input reads as it did. -/
def rateNearestUptoRow : OpenClaim := { program := "ytdcjpjdkamlheaa", sum := "ff53d288fdf6f8d4ec88e4403dfb8ec80158ac1680678d5556d3579fa22fb996", func := "seismonet/seismonetlaw02.RateNearest", spec := "rateNearest", apart := false, narrowed := true }
def RateNearestUptoSaid : Prop := rateNearestUptoRow.holds Try.pinned (OpenSpec.upto rateNearestSpec)

/-- 'seismonetlaw02.RateAscends', WHERE WHAT IT READS IS OF BULK AT MOST 1048576: true; the input reads as it did. -/
def rateAscendsUptoRow : OpenClaim := { program := "ytdcjpjdkamlheaa", sum := "ff53d288fdf6f8d4ec88e4403dfb8ec80158ac1680678d5556d3579fa22fb996", func := "seismonet/seismonetlaw02.RateAscends", spec := "rateAscends", apart := false, narrowed := true }
def RateAscendsUptoSaid : Prop := rateAscendsUptoRow.holds Try.pinned (OpenSpec.upto rateAscendsSpec)

end Rows
end Go.Proofs.Ytdcjpjdkamlheaa
