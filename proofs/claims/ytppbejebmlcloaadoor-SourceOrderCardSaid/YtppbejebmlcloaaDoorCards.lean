/-
  DERIVED. GIVEN WITH THE SEED: THE CARDS: each row of YtppbejebmlcloaaDoorRows.lean that lists a variable, with what it lists TIED to the program's text (the seventh form; the later family's looks); each row that meets fmt, with fmt's text TOLD by the authors' own Lean function (tested against real Go, not proved from fmt's source: count such statements apart). THE CARD IS WHAT COUNTS. Prove the row's statement (the work); the ties are given (YtppbejebmlcloaaDoorTie.lean); close each card by the builder's one call (the guide's Derived/Test/ToyasCard.lean, 'card_holds'). Laid BY PROGRAM, IN A SANDBOX (cutbox-door.mjs). By AI agents, Wed Nov 11 2026. No macro, syntax, notation, axiom, sorry.
-/
import Derived.Test.YtppbejebmlcloaaDoorRows
import GoSem.ClaimSeven
namespace Go.Proofs.YtppbejebmlcloaaDoor
namespace Rows

/-- THE TIED CARD OF 'seismonetlaw03.SourceBack'. -/
def sourceBackCard : Claim7 := { stood := { row := sourceBackRow, standIns := [], harness := (true, "10933f8e2e0bb8efb98a18fcecaa4b1983d590dfece5d93d1d8b70c23dc9faeb"), looks := false }, kinds := [], alts := [], laidByText := true, laidKinds := [.data, .pinned], laidTests := true, laidLooks := .later }
def SourceBackCardSaid : Prop := Claim7.holds Tryd.pinned (.plain (OpenSpec.ofChange sourceBackSpec)) sourceBackCard

/-- THE TIED CARD OF 'seismonetlaw03.SourceOrder'. -/
def sourceOrderCard : Claim7 := { stood := { row := sourceOrderRow, standIns := [], harness := (true, "10933f8e2e0bb8efb98a18fcecaa4b1983d590dfece5d93d1d8b70c23dc9faeb"), looks := false }, kinds := [], alts := [], laidByText := true, laidKinds := [.data, .pinned], laidTests := true, laidLooks := .later }
def SourceOrderCardSaid : Prop := Claim7.holds Tryd.pinned (.plain (OpenSpec.ofChange sourceOrderSpec)) sourceOrderCard

/-- THE TIED CARD OF 'seismonetlaw03.SourcePatterns'. -/
def sourcePatternsCard : Claim7 := { stood := { row := sourcePatternsRow, standIns := [], harness := (true, "10933f8e2e0bb8efb98a18fcecaa4b1983d590dfece5d93d1d8b70c23dc9faeb"), looks := false }, kinds := [], alts := [], laidByText := true, laidKinds := [.data, .pinned], laidTests := true, laidLooks := .later }
def SourcePatternsCardSaid : Prop := Claim7.holds Tryd.pinned (.plain (OpenSpec.ofChange sourcePatternsSpec)) sourcePatternsCard

/-- THE SECOND FORM's CARD OF 'seismonetlaw03.SourceBack'. -/
def sourceBackUptoCard : Claim7 := { stood := { row := sourceBackUptoRow, standIns := [], harness := (true, "10933f8e2e0bb8efb98a18fcecaa4b1983d590dfece5d93d1d8b70c23dc9faeb"), looks := false }, kinds := [], alts := [], laidByText := true, laidKinds := [.data, .pinned], laidTests := true, laidLooks := .later }
def SourceBackUptoCardSaid : Prop := Claim7.holds Tryd.pinned (.plain (OpenSpec.upto sourceBackSpec)) sourceBackUptoCard

/-- THE SECOND FORM's CARD OF 'seismonetlaw03.SourceOrder'. -/
def sourceOrderUptoCard : Claim7 := { stood := { row := sourceOrderUptoRow, standIns := [], harness := (true, "10933f8e2e0bb8efb98a18fcecaa4b1983d590dfece5d93d1d8b70c23dc9faeb"), looks := false }, kinds := [], alts := [], laidByText := true, laidKinds := [.data, .pinned], laidTests := true, laidLooks := .later }
def SourceOrderUptoCardSaid : Prop := Claim7.holds Tryd.pinned (.plain (OpenSpec.upto sourceOrderSpec)) sourceOrderUptoCard

/-- THE SECOND FORM's CARD OF 'seismonetlaw03.SourcePatterns'. -/
def sourcePatternsUptoCard : Claim7 := { stood := { row := sourcePatternsUptoRow, standIns := [], harness := (true, "10933f8e2e0bb8efb98a18fcecaa4b1983d590dfece5d93d1d8b70c23dc9faeb"), looks := false }, kinds := [], alts := [], laidByText := true, laidKinds := [.data, .pinned], laidTests := true, laidLooks := .later }
def SourcePatternsUptoCardSaid : Prop := Claim7.holds Tryd.pinned (.plain (OpenSpec.upto sourcePatternsSpec)) sourcePatternsUptoCard
end Rows
end Go.Proofs.YtppbejebmlcloaaDoor
