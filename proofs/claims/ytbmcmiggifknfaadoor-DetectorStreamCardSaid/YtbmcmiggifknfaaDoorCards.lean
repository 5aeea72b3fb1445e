/-
  DERIVED. GIVEN WITH THE SEED: THE CARDS: each row of YtbmcmiggifknfaaDoorRows.lean that lists a variable, with what it lists TIED to the program's text (the seventh form; the later family's looks); each row that meets fmt, with fmt's text TOLD by the authors' own Lean function (tested against real Go, not proved from fmt's source: count such statements apart). THE CARD IS WHAT COUNTS. Prove the row's statement (the work); the ties are given (YtbmcmiggifknfaaDoorTie.lean); close each card by the builder's one call (the guide's Derived/Test/ToyasCard.lean, 'card_holds'). Laid BY PROGRAM, IN A SANDBOX (cutbox-door.mjs). By AI agents, Wed Nov 11 2026. No macro, syntax, notation, axiom, sorry.
-/
import Derived.Test.YtbmcmiggifknfaaDoorRows
import GoSem.ClaimSeven
namespace Go.Proofs.YtbmcmiggifknfaaDoor
namespace Rows

/-- THE TIED CARD OF 'seismonetlaw22.DetectorStream'. -/
def detectorStreamCard : Claim7 := { stood := { row := detectorStreamRow, standIns := [], harness := (true, "b3d6840af09e48a62b29f922c48b26178523698ca28d0aca5bf58eb0ebad10db"), looks := false }, kinds := [], alts := [], laidByText := true, laidKinds := [.data], laidTests := true, laidLooks := .later }
def DetectorStreamCardSaid : Prop := Claim7.holds Tryd.pinned (.plain (OpenSpec.ofChange detectorStreamSpec)) detectorStreamCard

/-- THE TIED CARD OF 'seismonetlaw22.DetectorPrefix'. -/
def detectorPrefixCard : Claim7 := { stood := { row := detectorPrefixRow, standIns := [], harness := (true, "b3d6840af09e48a62b29f922c48b26178523698ca28d0aca5bf58eb0ebad10db"), looks := false }, kinds := [], alts := [], laidByText := true, laidKinds := [.data], laidTests := true, laidLooks := .later }
def DetectorPrefixCardSaid : Prop := Claim7.holds Tryd.pinned (.plain (OpenSpec.ofChange detectorPrefixSpec)) detectorPrefixCard

/-- THE TIED CARD OF 'seismonetlaw22.DetectorScales'. -/
def detectorScalesCard : Claim7 := { stood := { row := detectorScalesRow, standIns := [], harness := (true, "b3d6840af09e48a62b29f922c48b26178523698ca28d0aca5bf58eb0ebad10db"), looks := false }, kinds := [], alts := [], laidByText := true, laidKinds := [.data], laidTests := true, laidLooks := .later }
def DetectorScalesCardSaid : Prop := Claim7.holds Tryd.pinned (.plain (OpenSpec.ofChange detectorScalesSpec)) detectorScalesCard

/-- THE TIED CARD OF 'seismonetlaw22.DetectorTriggers'. -/
def detectorTriggersCard : Claim7 := { stood := { row := detectorTriggersRow, standIns := [], harness := (true, "b3d6840af09e48a62b29f922c48b26178523698ca28d0aca5bf58eb0ebad10db"), looks := false }, kinds := [], alts := [], laidByText := true, laidKinds := [.data], laidTests := true, laidLooks := .later }
def DetectorTriggersCardSaid : Prop := Claim7.holds Tryd.pinned (.plain (OpenSpec.ofChange detectorTriggersSpec)) detectorTriggersCard

/-- THE SECOND FORM's CARD OF 'seismonetlaw22.DetectorStream'. -/
def detectorStreamUptoCard : Claim7 := { stood := { row := detectorStreamUptoRow, standIns := [], harness := (true, "b3d6840af09e48a62b29f922c48b26178523698ca28d0aca5bf58eb0ebad10db"), looks := false }, kinds := [], alts := [], laidByText := true, laidKinds := [.data], laidTests := true, laidLooks := .later }
def DetectorStreamUptoCardSaid : Prop := Claim7.holds Tryd.pinned (.plain (OpenSpec.upto detectorStreamSpec)) detectorStreamUptoCard

/-- THE SECOND FORM's CARD OF 'seismonetlaw22.DetectorPrefix'. -/
def detectorPrefixUptoCard : Claim7 := { stood := { row := detectorPrefixUptoRow, standIns := [], harness := (true, "b3d6840af09e48a62b29f922c48b26178523698ca28d0aca5bf58eb0ebad10db"), looks := false }, kinds := [], alts := [], laidByText := true, laidKinds := [.data], laidTests := true, laidLooks := .later }
def DetectorPrefixUptoCardSaid : Prop := Claim7.holds Tryd.pinned (.plain (OpenSpec.upto detectorPrefixSpec)) detectorPrefixUptoCard

/-- THE SECOND FORM's CARD OF 'seismonetlaw22.DetectorScales'. -/
def detectorScalesUptoCard : Claim7 := { stood := { row := detectorScalesUptoRow, standIns := [], harness := (true, "b3d6840af09e48a62b29f922c48b26178523698ca28d0aca5bf58eb0ebad10db"), looks := false }, kinds := [], alts := [], laidByText := true, laidKinds := [.data], laidTests := true, laidLooks := .later }
def DetectorScalesUptoCardSaid : Prop := Claim7.holds Tryd.pinned (.plain (OpenSpec.upto detectorScalesSpec)) detectorScalesUptoCard

/-- THE SECOND FORM's CARD OF 'seismonetlaw22.DetectorTriggers'. -/
def detectorTriggersUptoCard : Claim7 := { stood := { row := detectorTriggersUptoRow, standIns := [], harness := (true, "b3d6840af09e48a62b29f922c48b26178523698ca28d0aca5bf58eb0ebad10db"), looks := false }, kinds := [], alts := [], laidByText := true, laidKinds := [.data], laidTests := true, laidLooks := .later }
def DetectorTriggersUptoCardSaid : Prop := Claim7.holds Tryd.pinned (.plain (OpenSpec.upto detectorTriggersSpec)) detectorTriggersUptoCard
end Rows
end Go.Proofs.YtbmcmiggifknfaaDoor
