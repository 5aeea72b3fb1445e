/-
  DERIVED. GIVEN WITH THE SEED: THE CARDS: each row of YtfebacopbacopaaDoorRows.lean that lists a variable, with what it lists TIED to the program's text (the seventh form; the later family's looks); each row that meets fmt, with fmt's text TOLD by the authors' own Lean function (tested against real Go, not proved from fmt's source: count such statements apart). THE CARD IS WHAT COUNTS. Prove the row's statement (the work); the ties are given (YtfebacopbacopaaDoorTie.lean); close each card by the builder's one call (the guide's Derived/Test/ToyasCard.lean, 'card_holds'). Laid BY PROGRAM, IN A SANDBOX (cutbox-door.mjs). By AI agents, Wed Nov 11 2026. No macro, syntax, notation, axiom, sorry.
-/
import Derived.Test.YtfebacopbacopaaDoorRows
import GoSem.ClaimSeven
namespace Go.Proofs.YtfebacopbacopaaDoor
namespace Rows

/-- THE TIED CARD OF 'seismonetlaw07.PacketBack'. -/
def packetBackCard : Claim7 := { stood := { row := packetBackRow, standIns := [], harness := (true, "fc485edc426738ce974f2bbde1bacc640a264563a1f342bcab945ac77429f46a"), looks := false }, kinds := [], alts := [], laidByText := true, laidKinds := [.data, .pinned], laidTests := true, laidLooks := .later }
def PacketBackCardSaid : Prop := Claim7.holds Tryd.pinned (.plain (OpenSpec.ofChange packetBackSpec)) packetBackCard

/-- THE TIED CARD OF 'seismonetlaw07.PacketDamage'. -/
def packetDamageCard : Claim7 := { stood := { row := packetDamageRow, standIns := [], harness := (true, "fc485edc426738ce974f2bbde1bacc640a264563a1f342bcab945ac77429f46a"), looks := false }, kinds := [], alts := [], laidByText := true, laidKinds := [.data, .pinned], laidTests := true, laidLooks := .later }
def PacketDamageCardSaid : Prop := Claim7.holds Tryd.pinned (.plain (OpenSpec.ofChange packetDamageSpec)) packetDamageCard

/-- THE TIED CARD OF 'seismonetlaw07.PacketRecords'. -/
def packetRecordsCard : Claim7 := { stood := { row := packetRecordsRow, standIns := [], harness := (true, "fc485edc426738ce974f2bbde1bacc640a264563a1f342bcab945ac77429f46a"), looks := false }, kinds := [], alts := [], laidByText := true, laidKinds := [.data, .pinned], laidTests := true, laidLooks := .later }
def PacketRecordsCardSaid : Prop := Claim7.holds Tryd.pinned (.plain (OpenSpec.ofChange packetRecordsSpec)) packetRecordsCard

/-- THE TIED CARD OF 'seismonetlaw03.SourceBack'. -/
def sourceBackCard : Claim7 := { stood := { row := sourceBackRow, standIns := [], harness := (true, "fc485edc426738ce974f2bbde1bacc640a264563a1f342bcab945ac77429f46a"), looks := false }, kinds := [], alts := [], laidByText := true, laidKinds := [.data, .pinned], laidTests := true, laidLooks := .later }
def SourceBackCardSaid : Prop := Claim7.holds Tryd.pinned (.plain (OpenSpec.ofChange sourceBackSpec)) sourceBackCard

/-- THE SECOND FORM's CARD OF 'seismonetlaw07.PacketBack'. -/
def packetBackUptoCard : Claim7 := { stood := { row := packetBackUptoRow, standIns := [], harness := (true, "fc485edc426738ce974f2bbde1bacc640a264563a1f342bcab945ac77429f46a"), looks := false }, kinds := [], alts := [], laidByText := true, laidKinds := [.data, .pinned], laidTests := true, laidLooks := .later }
def PacketBackUptoCardSaid : Prop := Claim7.holds Tryd.pinned (.plain (OpenSpec.upto packetBackSpec)) packetBackUptoCard

/-- THE SECOND FORM's CARD OF 'seismonetlaw07.PacketDamage'. -/
def packetDamageUptoCard : Claim7 := { stood := { row := packetDamageUptoRow, standIns := [], harness := (true, "fc485edc426738ce974f2bbde1bacc640a264563a1f342bcab945ac77429f46a"), looks := false }, kinds := [], alts := [], laidByText := true, laidKinds := [.data, .pinned], laidTests := true, laidLooks := .later }
def PacketDamageUptoCardSaid : Prop := Claim7.holds Tryd.pinned (.plain (OpenSpec.upto packetDamageSpec)) packetDamageUptoCard

/-- THE SECOND FORM's CARD OF 'seismonetlaw07.PacketRecords'. -/
def packetRecordsUptoCard : Claim7 := { stood := { row := packetRecordsUptoRow, standIns := [], harness := (true, "fc485edc426738ce974f2bbde1bacc640a264563a1f342bcab945ac77429f46a"), looks := false }, kinds := [], alts := [], laidByText := true, laidKinds := [.data, .pinned], laidTests := true, laidLooks := .later }
def PacketRecordsUptoCardSaid : Prop := Claim7.holds Tryd.pinned (.plain (OpenSpec.upto packetRecordsSpec)) packetRecordsUptoCard

/-- THE SECOND FORM's CARD OF 'seismonetlaw03.SourceBack'. -/
def sourceBackUptoCard : Claim7 := { stood := { row := sourceBackUptoRow, standIns := [], harness := (true, "fc485edc426738ce974f2bbde1bacc640a264563a1f342bcab945ac77429f46a"), looks := false }, kinds := [], alts := [], laidByText := true, laidKinds := [.data, .pinned], laidTests := true, laidLooks := .later }
def SourceBackUptoCardSaid : Prop := Claim7.holds Tryd.pinned (.plain (OpenSpec.upto sourceBackSpec)) sourceBackUptoCard
end Rows
end Go.Proofs.YtfebacopbacopaaDoor
