/-
  No cell of these rows narrows 'for every input' (looked for: loops, veiled, ifaces, maps, wideKeys, modest, calm, conditions, laid).
  DERIVED. THE GIVEN ROWS OF THIS SEAT. 4 by the template 'for every input the law returns true; each argument reads behind the call as it read before'; 0 by the template 'total and deterministic' (their statements: YtlfliochpnekdaaTotals.lean).
  GIVEN WITH THE SEED: the statements are not yours to turn. If you find one false, say at which input.
  Laid BY PROGRAM, IN A SANDBOX (cutbox-rows.mjs): the forced cells as the released guide's own fill.sh prints them over the translation 63a7677091a3813f… (all of the seat's roots in one cut). By AI agents, Wed Nov 11 2026. No macro, syntax, notation, axiom, sorry.
-/
import Derived.Test.YtlfliochpnekdaaChecked
import GoSem.Claim
import GoSem.ClaimJoined
import GoSem.ClaimMapViews
import Derived.JoinedTies
import Derived.KernelRfl
namespace Go.Proofs.Ytlfliochpnekdaa
/- THE CELL 'sum', in the pinned program and in every row, IS THE sha256 OF THE DUMP (.gsa) THAT YtlfliochpnekdaaProg.lean LOADS. Nothing in Lean hashes anything: it is a label: what it is worth is what the hold of that sum in a sandbox is worth. -/
noncomputable def Try.pinned : Pinned := { name := "ytlfliochpnekdaa", sum := "63a7677091a3813f9bb83d1f4642df2f4225d0160ae693ff20601b84f7255038", checked := Try.checked }
namespace Rows
def none {H : Type} : Left H := { results := [], args := [] }

/-- 'seismonetlaw25.TravelGrows': WHATEVER THE INPUT: true; the input reads as it did. -/
def travelGrowsSpec : ChangeSpec := { name := "travelGrows", fn := fun _ => fun
  | [d] => { results := [.lit (.bool true)], args := [d] }
  | _ => none }
def travelGrowsRow : OpenClaim := { program := "ytlfliochpnekdaa", sum := "63a7677091a3813f9bb83d1f4642df2f4225d0160ae693ff20601b84f7255038", func := "seismonet/seismonetlaw25.TravelGrows", spec := "travelGrows", unfollowed := true, recurses := true, apart := false }
def TravelGrowsSaid : Prop := travelGrowsRow.holds Try.pinned (OpenSpec.ofChange travelGrowsSpec)

/-- ITS FALSE NEIGHBOUR: 'it returns false'. Refute it at one input. -/
def travelGrowsWrong : ChangeSpec := { name := "travelGrows", fn := fun _ => fun
  | [d] => { results := [.lit (.bool false)], args := [d] }
  | _ => none }
def TravelGrowsWrongFalsely : Prop := travelGrowsRow.holds Try.pinned (OpenSpec.ofChange travelGrowsWrong)

/-- 'seismonetlaw25.TravelContains': WHATEVER THE INPUT: true; the input reads as it did. -/
def travelContainsSpec : ChangeSpec := { name := "travelContains", fn := fun _ => fun
  | [d] => { results := [.lit (.bool true)], args := [d] }
  | _ => none }
def travelContainsRow : OpenClaim := { program := "ytlfliochpnekdaa", sum := "63a7677091a3813f9bb83d1f4642df2f4225d0160ae693ff20601b84f7255038", func := "seismonet/seismonetlaw25.TravelContains", spec := "travelContains", unfollowed := true, recurses := true, apart := false }
def TravelContainsSaid : Prop := travelContainsRow.holds Try.pinned (OpenSpec.ofChange travelContainsSpec)

/-- ITS FALSE NEIGHBOUR: 'it returns false'. Refute it at one input. -/
def travelContainsWrong : ChangeSpec := { name := "travelContains", fn := fun _ => fun
  | [d] => { results := [.lit (.bool false)], args := [d] }
  | _ => none }
def TravelContainsWrongFalsely : Prop := travelContainsRow.holds Try.pinned (OpenSpec.ofChange travelContainsWrong)

/-- 'seismonetlaw25.TravelBack': WHATEVER THE INPUT: true; the input reads as it did. -/
def travelBackSpec : ChangeSpec := { name := "travelBack", fn := fun _ => fun
  | [d1, d2] => { results := [.lit (.bool true)], args := [d1, d2] }
  | _ => none }
def travelBackRow : OpenClaim := { program := "ytlfliochpnekdaa", sum := "63a7677091a3813f9bb83d1f4642df2f4225d0160ae693ff20601b84f7255038", func := "seismonet/seismonetlaw25.TravelBack", spec := "travelBack", unfollowed := true, recurses := true, apart := false }
def TravelBackSaid : Prop := travelBackRow.holds Try.pinned (OpenSpec.ofChange travelBackSpec)

/-- ITS FALSE NEIGHBOUR: 'it returns false'. Refute it at one input. -/
def travelBackWrong : ChangeSpec := { name := "travelBack", fn := fun _ => fun
  | [d1, d2] => { results := [.lit (.bool false)], args := [d1, d2] }
  | _ => none }
def TravelBackWrongFalsely : Prop := travelBackRow.holds Try.pinned (OpenSpec.ofChange travelBackWrong)

/-- 'seismonetlaw25.TravelRounds': WHATEVER THE INPUT: true; the input reads as it did. -/
def travelRoundsSpec : ChangeSpec := { name := "travelRounds", fn := fun _ => fun
  | [d1, d2] => { results := [.lit (.bool true)], args := [d1, d2] }
  | _ => none }
def travelRoundsRow : OpenClaim := { program := "ytlfliochpnekdaa", sum := "63a7677091a3813f9bb83d1f4642df2f4225d0160ae693ff20601b84f7255038", func := "seismonet/seismonetlaw25.TravelRounds", spec := "travelRounds", unfollowed := true, recurses := true, apart := false }
def TravelRoundsSaid : Prop := travelRoundsRow.holds Try.pinned (OpenSpec.ofChange travelRoundsSpec)

/-- ITS FALSE NEIGHBOUR: 'it returns false'. Refute it at one input. -/
def travelRoundsWrong : ChangeSpec := { name := "travelRounds", fn := fun _ => fun
  | [d1, d2] => { results := [.lit (.bool false)], args := [d1, d2] }
  | _ => none }
def TravelRoundsWrongFalsely : Prop := travelRoundsRow.holds Try.pinned (OpenSpec.ofChange travelRoundsWrong)

/- THE SECOND FORM. 'bulk': how many values and letters a reading holds, each counted each time it is reached (what is shared counts as often as it is met; a slice's spare places count too). A statement '..UptoSaid' is the law's where the arguments, and the package variables that the reading takes, are together of bulk at most 1048576: NARROWER than '..Said'. Prove '..Said' where nothing that the law and all that it calls make is longer than what came in: it says more and counts as full. Else prove '..UptoSaid'. A law counts once. -/
mutual
def uptoBulk {H : Type} : DataW H → Nat
  | .lit (.string bytes) => bytes.length + 1
  | .lit _ => 1
  | .nil => 1
  | .ptr d => uptoBulk d + 1
  | .slice elems spare => uptoBulkAll elems + uptoBulkAll spare + 1
  | .agg parts => uptoBulkAll parts + 1
  | .iface _ d => uptoBulk d + 1
  | .map entries => uptoBulkEntries entries + 1
  | .held _ => 1
def uptoBulkAll {H : Type} : List (DataW H) → Nat
  | [] => 0
  | d :: r => uptoBulk d + uptoBulkAll r
def uptoBulkEntries {H : Type} : List (Lit × DataW H) → Nat
  | [] => 0
  | x :: r => uptoBulkEntry x + uptoBulkEntries r
def uptoBulkEntry {H : Type} : Lit × DataW H → Nat
  | (.string bytes, d) => bytes.length + uptoBulk d + 1
  | (_, d) => uptoBulk d + 1
 end
def uptoSmall : (H : Type) → List (DataW H) → Bool := fun _ ds => decide (uptoBulkAll ds ≤ 1048576)
def OpenSpec.upto (s : _root_.Go.ChangeSpec) : _root_.Go.OpenSpec := { _root_.Go.OpenSpec.ofChange s with cond := some uptoSmall }

/-- 'seismonetlaw25.TravelGrows', WHERE WHAT IT READS IS OF BULK AT MOST 1048576: true; the input reads as it did. -/
def travelGrowsUptoRow : OpenClaim := { program := "ytlfliochpnekdaa", sum := "63a7677091a3813f9bb83d1f4642df2f4225d0160ae693ff20601b84f7255038", func := "seismonet/seismonetlaw25.TravelGrows", spec := "travelGrows", unfollowed := true, recurses := true, apart := false, narrowed := true }
def TravelGrowsUptoSaid : Prop := travelGrowsUptoRow.holds Try.pinned (OpenSpec.upto travelGrowsSpec)

/-- 'seismonetlaw25.TravelContains', WHERE WHAT IT READS IS OF BULK AT MOST 1048576: true; the input reads as it did. -/
def travelContainsUptoRow : OpenClaim := { program := "ytlfliochpnekdaa", sum := "63a7677091a3813f9bb83d1f4642df2f4225d0160ae693ff20601b84f7255038", func := "seismonet/seismonetlaw25.TravelContains", spec := "travelContains", unfollowed := true, recurses := true, apart := false, narrowed := true }
def TravelContainsUptoSaid : Prop := travelContainsUptoRow.holds Try.pinned (OpenSpec.upto travelContainsSpec)

/-- 'seismonetlaw25.TravelBack', WHERE WHAT IT READS IS OF BULK AT MOST 1048576: true; the input reads as it did. -/
def travelBackUptoRow : OpenClaim := { program := "ytlfliochpnekdaa", sum := "63a7677091a3813f9bb83d1f4642df2f4225d0160ae693ff20601b84f7255038", func := "seismonet/seismonetlaw25.TravelBack", spec := "travelBack", unfollowed := true, recurses := true, apart := false, narrowed := true }
def TravelBackUptoSaid : Prop := travelBackUptoRow.holds Try.pinned (OpenSpec.upto travelBackSpec)

/-- 'seismonetlaw25.TravelRounds', WHERE WHAT IT READS IS OF BULK AT MOST 1048576: true; the input reads as it did. -/
def travelRoundsUptoRow : OpenClaim := { program := "ytlfliochpnekdaa", sum := "63a7677091a3813f9bb83d1f4642df2f4225d0160ae693ff20601b84f7255038", func := "seismonet/seismonetlaw25.TravelRounds", spec := "travelRounds", unfollowed := true, recurses := true, apart := false, narrowed := true }
def TravelRoundsUptoSaid : Prop := travelRoundsUptoRow.holds Try.pinned (OpenSpec.upto travelRoundsSpec)

end Rows
end Go.Proofs.Ytlfliochpnekdaa
