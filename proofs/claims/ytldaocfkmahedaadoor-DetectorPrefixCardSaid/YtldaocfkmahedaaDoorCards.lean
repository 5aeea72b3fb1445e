/-
  DERIVED. GIVEN WITH THE SEED: THE CARDS: each row of YtldaocfkmahedaaDoorRows.lean that lists a variable, with what it lists TIED to the program's text (the seventh form; the later family's looks); each row that meets fmt, with fmt's text TOLD by the authors' own Lean function (tested against real Go, not proved from fmt's source: count such statements apart). THE CARD IS WHAT COUNTS. Prove the row's statement (the work); the ties are given (YtldaocfkmahedaaDoorTie.lean); close each card by the builder's one call (the guide's Derived/Test/ToyasCard.lean, 'card_holds'). Laid BY PROGRAM, IN A SANDBOX (cutbox-door.mjs). By AI agents, Wed Nov 11 2026. No macro, syntax, notation, axiom, sorry.
-/
import Derived.Test.YtldaocfkmahedaaDoorRows
import GoSem.ClaimSeven
namespace Go.Proofs.YtldaocfkmahedaaDoor
namespace Rows

/-- THE TIED CARD OF 'seismonetlaw22.DetectorScales'. -/
def detectorScalesCard : Claim7 := { stood := { row := detectorScalesRow, standIns := [], harness := (true, "70b61b83fd04012fdd7d5813b0c4b7e2f2e16483752401caf9c7422beb3db0b8"), looks := false }, kinds := [], alts := [], laidByText := true, laidKinds := [.data], laidTests := true, laidLooks := .later }
def DetectorScalesCardSaid : Prop := Claim7.holds Tryd.pinned (.plain (OpenSpec.ofChange detectorScalesSpec)) detectorScalesCard

/-- THE TIED CARD OF 'seismonetlaw22.DetectorPrefix'. -/
def detectorPrefixCard : Claim7 := { stood := { row := detectorPrefixRow, standIns := [], harness := (true, "70b61b83fd04012fdd7d5813b0c4b7e2f2e16483752401caf9c7422beb3db0b8"), looks := false }, kinds := [], alts := [], laidByText := true, laidKinds := [.data], laidTests := true, laidLooks := .later }
def DetectorPrefixCardSaid : Prop := Claim7.holds Tryd.pinned (.plain (OpenSpec.ofChange detectorPrefixSpec)) detectorPrefixCard

/-- THE TIED CARD OF 'seismonetlaw22.DetectorTriggers'. -/
def detectorTriggersCard : Claim7 := { stood := { row := detectorTriggersRow, standIns := [], harness := (true, "70b61b83fd04012fdd7d5813b0c4b7e2f2e16483752401caf9c7422beb3db0b8"), looks := false }, kinds := [], alts := [], laidByText := true, laidKinds := [.data], laidTests := true, laidLooks := .later }
def DetectorTriggersCardSaid : Prop := Claim7.holds Tryd.pinned (.plain (OpenSpec.ofChange detectorTriggersSpec)) detectorTriggersCard

/-- THE SECOND FORM's CARD OF 'seismonetlaw22.DetectorScales'. -/
def detectorScalesUptoCard : Claim7 := { stood := { row := detectorScalesUptoRow, standIns := [], harness := (true, "70b61b83fd04012fdd7d5813b0c4b7e2f2e16483752401caf9c7422beb3db0b8"), looks := false }, kinds := [], alts := [], laidByText := true, laidKinds := [.data], laidTests := true, laidLooks := .later }
def DetectorScalesUptoCardSaid : Prop := Claim7.holds Tryd.pinned (.plain (OpenSpec.upto detectorScalesSpec)) detectorScalesUptoCard

/-- THE SECOND FORM's CARD OF 'seismonetlaw22.DetectorPrefix'. -/
def detectorPrefixUptoCard : Claim7 := { stood := { row := detectorPrefixUptoRow, standIns := [], harness := (true, "70b61b83fd04012fdd7d5813b0c4b7e2f2e16483752401caf9c7422beb3db0b8"), looks := false }, kinds := [], alts := [], laidByText := true, laidKinds := [.data], laidTests := true, laidLooks := .later }
def DetectorPrefixUptoCardSaid : Prop := Claim7.holds Tryd.pinned (.plain (OpenSpec.upto detectorPrefixSpec)) detectorPrefixUptoCard

/-- THE SECOND FORM's CARD OF 'seismonetlaw22.DetectorTriggers'. -/
def detectorTriggersUptoCard : Claim7 := { stood := { row := detectorTriggersUptoRow, standIns := [], harness := (true, "70b61b83fd04012fdd7d5813b0c4b7e2f2e16483752401caf9c7422beb3db0b8"), looks := false }, kinds := [], alts := [], laidByText := true, laidKinds := [.data], laidTests := true, laidLooks := .later }
def DetectorTriggersUptoCardSaid : Prop := Claim7.holds Tryd.pinned (.plain (OpenSpec.upto detectorTriggersSpec)) detectorTriggersUptoCard
end Rows
end Go.Proofs.YtldaocfkmahedaaDoor
