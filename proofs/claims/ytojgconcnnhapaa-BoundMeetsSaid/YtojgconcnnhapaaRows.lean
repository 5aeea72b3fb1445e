/-
  No cell of these rows narrows 'for every input' (looked for: loops, veiled, ifaces, maps, wideKeys, modest, calm, conditions, laid).
  DERIVED. THE GIVEN ROWS OF THIS SEAT. 4 by the template 'for every input the law returns true; each argument reads behind the call as it read before'; 0 by the template 'total and deterministic' (their statements: YtojgconcnnhapaaTotals.lean).
  GIVEN WITH THE SEED: the statements are not yours to turn. If you find one false, say at which input.
  Laid BY PROGRAM, IN A SANDBOX (cutbox-rows.mjs): the forced cells as the released guide's own fill.sh prints them over the translation b1f6bf970f6ff346… (all of the seat's roots in one cut). By AI agents, Wed Nov 11 2026. No macro, syntax, notation, axiom, sorry.
-/
import Derived.Test.YtojgconcnnhapaaChecked
import GoSem.Claim
import GoSem.ClaimJoined
import GoSem.ClaimMapViews
import Derived.JoinedTies
import Derived.KernelRfl
namespace Go.Proofs.Ytojgconcnnhapaa
/- THE CELL 'sum', in the pinned program and in every row, IS THE sha256 OF THE DUMP (.gsa) THAT YtojgconcnnhapaaProg.lean LOADS. Nothing in Lean hashes anything: it is a label: what it is worth is what the hold of that sum in a sandbox is worth. -/
noncomputable def Try.pinned : Pinned := { name := "ytojgconcnnhapaa", sum := "b1f6bf970f6ff34658f1b7d703bd190ff35a479b93326bdaee41cf8276251ef2", checked := Try.checked }
namespace Rows
def none {H : Type} : Left H := { results := [], args := [] }

/-- 'seismonetlaw26.BoundMeets': WHATEVER THE INPUT: true; the input reads as it did. -/
def boundMeetsSpec : ChangeSpec := { name := "boundMeets", fn := fun _ => fun
  | [d1, d2, d3, d4] => { results := [.lit (.bool true)], args := [d1, d2, d3, d4] }
  | _ => none }
def boundMeetsRow : OpenClaim := { program := "ytojgconcnnhapaa", sum := "b1f6bf970f6ff34658f1b7d703bd190ff35a479b93326bdaee41cf8276251ef2", func := "seismonet/seismonetlaw26.BoundMeets", spec := "boundMeets", unfollowed := true, recurses := true, apart := false }
def BoundMeetsSaid : Prop := boundMeetsRow.holds Try.pinned (OpenSpec.ofChange boundMeetsSpec)

/-- ITS FALSE NEIGHBOUR: 'it returns false'. Refute it at one input. -/
def boundMeetsWrong : ChangeSpec := { name := "boundMeets", fn := fun _ => fun
  | [d1, d2, d3, d4] => { results := [.lit (.bool false)], args := [d1, d2, d3, d4] }
  | _ => none }
def BoundMeetsWrongFalsely : Prop := boundMeetsRow.holds Try.pinned (OpenSpec.ofChange boundMeetsWrong)

/-- 'seismonetlaw26.BoundContains': WHATEVER THE INPUT: true; the input reads as it did. -/
def boundContainsSpec : ChangeSpec := { name := "boundContains", fn := fun _ => fun
  | [d] => { results := [.lit (.bool true)], args := [d] }
  | _ => none }
def boundContainsRow : OpenClaim := { program := "ytojgconcnnhapaa", sum := "b1f6bf970f6ff34658f1b7d703bd190ff35a479b93326bdaee41cf8276251ef2", func := "seismonet/seismonetlaw26.BoundContains", spec := "boundContains", unfollowed := true, recurses := true, apart := false }
def BoundContainsSaid : Prop := boundContainsRow.holds Try.pinned (OpenSpec.ofChange boundContainsSpec)

/-- ITS FALSE NEIGHBOUR: 'it returns false'. Refute it at one input. -/
def boundContainsWrong : ChangeSpec := { name := "boundContains", fn := fun _ => fun
  | [d] => { results := [.lit (.bool false)], args := [d] }
  | _ => none }
def BoundContainsWrongFalsely : Prop := boundContainsRow.holds Try.pinned (OpenSpec.ofChange boundContainsWrong)

/-- 'seismonetlaw26.BoundExplains': WHATEVER THE INPUT: true; the input reads as it did. -/
def boundExplainsSpec : ChangeSpec := { name := "boundExplains", fn := fun _ => fun
  | [d] => { results := [.lit (.bool true)], args := [d] }
  | _ => none }
def boundExplainsRow : OpenClaim := { program := "ytojgconcnnhapaa", sum := "b1f6bf970f6ff34658f1b7d703bd190ff35a479b93326bdaee41cf8276251ef2", func := "seismonet/seismonetlaw26.BoundExplains", spec := "boundExplains", unfollowed := true, recurses := true, apart := false }
def BoundExplainsSaid : Prop := boundExplainsRow.holds Try.pinned (OpenSpec.ofChange boundExplainsSpec)

/-- ITS FALSE NEIGHBOUR: 'it returns false'. Refute it at one input. -/
def boundExplainsWrong : ChangeSpec := { name := "boundExplains", fn := fun _ => fun
  | [d] => { results := [.lit (.bool false)], args := [d] }
  | _ => none }
def BoundExplainsWrongFalsely : Prop := boundExplainsRow.holds Try.pinned (OpenSpec.ofChange boundExplainsWrong)

/-- 'seismonetlaw26.BoundTight': WHATEVER THE INPUT: true; the input reads as it did. -/
def boundTightSpec : ChangeSpec := { name := "boundTight", fn := fun _ => fun
  | [d] => { results := [.lit (.bool true)], args := [d] }
  | _ => none }
def boundTightRow : OpenClaim := { program := "ytojgconcnnhapaa", sum := "b1f6bf970f6ff34658f1b7d703bd190ff35a479b93326bdaee41cf8276251ef2", func := "seismonet/seismonetlaw26.BoundTight", spec := "boundTight", unfollowed := true, recurses := true, apart := false }
def BoundTightSaid : Prop := boundTightRow.holds Try.pinned (OpenSpec.ofChange boundTightSpec)

/-- ITS FALSE NEIGHBOUR: 'it returns false'. Refute it at one input. -/
def boundTightWrong : ChangeSpec := { name := "boundTight", fn := fun _ => fun
  | [d] => { results := [.lit (.bool false)], args := [d] }
  | _ => none }
def BoundTightWrongFalsely : Prop := boundTightRow.holds Try.pinned (OpenSpec.ofChange boundTightWrong)

/- THE SECOND FORM. 'bulk': how many values and letters a reading holds, each counted each time it is reached (what is shared counts as often as it is met; a slice's spare places count too). A statement '..UptoSaid' is the law's where the arguments, and the package variables that the reading takes, are together of bulk at most 1048576: NARROWER than '..Said'. Prove '..Said' where nothing that the law and all that it calls make is longer than what came in: it says more and counts as full. Else prove '..UptoSaid'. A law counts once. -/
mutual
def uptoBulk {H : Type} : DataW H → Nat
  | .lit (.string bytes) => bytes.length + 1
  | .lit _ => 1
  | .nil => 1
  | .ptr d => uptoBulk d + 1
  | .slice elems spare => uptoBulkAll elems + uptoBulkAll spare + 1
  | .agg parts => uptoBulkAll parts + 1
  | .iface _ d => uptoBulk d + 1
  | .map entries => uptoBulkEntries entries + 1
  | .held _ => 1
def uptoBulkAll {H : Type} : List (DataW H) → Nat
  | [] => 0
  | d :: r => uptoBulk d + uptoBulkAll r
def uptoBulkEntries {H : Type} : List (Lit × DataW H) → Nat
  | [] => 0
  | x :: r => uptoBulkEntry x + uptoBulkEntries r
def uptoBulkEntry {H : Type} : Lit × DataW H → Nat
  | (.string bytes, d) => bytes.length + uptoBulk d + 1
  | (_, d) => uptoBulk d + 1
 end
def uptoSmall : (H : Type) → List (DataW H) → Bool := fun _ ds => decide (uptoBulkAll ds ≤ 1048576)
def OpenSpec.upto (s : _root_.Go.ChangeSpec) : _root_.Go.OpenSpec := { _root_.Go.OpenSpec.ofChange s with cond := some uptoSmall }

/-- 'seismonetlaw26.BoundMeets', WHERE WHAT IT READS IS OF BULK AT MOST 1048576: true; the input reads as it did. -/
def boundMeetsUptoRow : OpenClaim := { program := "ytojgconcnnhapaa", sum := "b1f6bf970f6ff34658f1b7d703bd190ff35a479b93326bdaee41cf8276251ef2", func := "seismonet/seismonetlaw26.BoundMeets", spec := "boundMeets", unfollowed := true, recurses := true, apart := false, narrowed := true }
def BoundMeetsUptoSaid : Prop := boundMeetsUptoRow.holds Try.pinned (OpenSpec.upto boundMeetsSpec)

/-- 'seismonetlaw26.BoundContains', WHERE WHAT IT READS IS OF BULK AT MOST 1048576: true; the input reads as it did. -/
def boundContainsUptoRow : OpenClaim := { program := "ytojgconcnnhapaa", sum := "b1f6bf970f6ff34658f1b7d703bd190ff35a479b93326bdaee41cf8276251ef2", func := "seismonet/seismonetlaw26.BoundContains", spec := "boundContains", unfollowed := true, recurses := true, apart := false, narrowed := true }
def BoundContainsUptoSaid : Prop := boundContainsUptoRow.holds Try.pinned (OpenSpec.upto boundContainsSpec)

/-- 'seismonetlaw26.BoundExplains', WHERE WHAT IT READS IS OF BULK AT MOST 1048576: true; the input reads as it did. -/
def boundExplainsUptoRow : OpenClaim := { program := "ytojgconcnnhapaa", sum := "b1f6bf970f6ff34658f1b7d703bd190ff35a479b93326bdaee41cf8276251ef2", func := "seismonet/seismonetlaw26.BoundExplains", spec := "boundExplains", unfollowed := true, recurses := true, apart := false, narrowed := true }
def BoundExplainsUptoSaid : Prop := boundExplainsUptoRow.holds Try.pinned (OpenSpec.upto boundExplainsSpec)

/-- 'seismonetlaw26.BoundTight', WHERE WHAT IT READS IS OF BULK AT MOST 1048576: true; the input reads as it did. -/
def boundTightUptoRow : OpenClaim := { program := "ytojgconcnnhapaa", sum := "b1f6bf970f6ff34658f1b7d703bd190ff35a479b93326bdaee41cf8276251ef2", func := "seismonet/seismonetlaw26.BoundTight", spec := "boundTight", unfollowed := true, recurses := true, apart := false, narrowed := true }
def BoundTightUptoSaid : Prop := boundTightUptoRow.holds Try.pinned (OpenSpec.upto boundTightSpec)

end Rows
end Go.Proofs.Ytojgconcnnhapaa
