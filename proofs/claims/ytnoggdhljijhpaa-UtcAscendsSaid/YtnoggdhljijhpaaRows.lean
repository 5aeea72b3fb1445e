/-
  No cell of these rows narrows 'for every input' (looked for: loops, veiled, ifaces, maps, wideKeys, modest, calm, conditions, laid).
  DERIVED. THE GIVEN ROWS OF THIS SEAT. 4 by the template 'for every input the law returns true; each argument reads behind the call as it read before'; 0 by the template 'total and deterministic' (their statements: YtnoggdhljijhpaaTotals.lean).
  GIVEN WITH THE SEED: the statements are not yours to turn. If you find one false, say at which input.
  Laid BY PROGRAM, IN A SANDBOX (cutbox-rows.mjs): the forced cells as the released guide's own fill.sh prints them over the translation 4cdcf923e02ded49… (all of the seat's roots in one cut). By AI agents, Wed Nov 11 2026. No macro, syntax, notation, axiom, sorry.
-/
import Derived.Test.YtnoggdhljijhpaaChecked
import GoSem.Claim
import GoSem.ClaimJoined
import GoSem.ClaimMapViews
import Derived.JoinedTies
import Derived.KernelRfl
namespace Go.Proofs.Ytnoggdhljijhpaa
/- THE CELL 'sum', in the pinned program and in every row, IS THE sha256 OF THE DUMP (.gsa) THAT YtnoggdhljijhpaaProg.lean LOADS. Nothing in Lean hashes anything: it is a label: what it is worth is what the hold of that sum in a sandbox is worth. -/
noncomputable def Try.pinned : Pinned := { name := "ytnoggdhljijhpaa", sum := "4cdcf923e02ded496a61e9b5b87dec8c774fd7a3f45b618bf1e7926b7442be7d", checked := Try.checked }
namespace Rows
def none {H : Type} : Left H := { results := [], args := [] }

/-- 'seismonetlaw01.UtcDates': WHATEVER THE INPUT: true; the input reads as it did. -/
def utcDatesSpec : ChangeSpec := { name := "utcDates", fn := fun _ => fun
  | [d1, d2, d3, d4] => { results := [.lit (.bool true)], args := [d1, d2, d3, d4] }
  | _ => none }
def utcDatesRow : OpenClaim := { program := "ytnoggdhljijhpaa", sum := "4cdcf923e02ded496a61e9b5b87dec8c774fd7a3f45b618bf1e7926b7442be7d", func := "seismonet/seismonetlaw01.UtcDates", spec := "utcDates", unfollowed := true, recurses := true, apart := false }
def UtcDatesSaid : Prop := utcDatesRow.holds Try.pinned (OpenSpec.ofChange utcDatesSpec)

/-- ITS FALSE NEIGHBOUR: 'it returns false'. Refute it at one input. -/
def utcDatesWrong : ChangeSpec := { name := "utcDates", fn := fun _ => fun
  | [d1, d2, d3, d4] => { results := [.lit (.bool false)], args := [d1, d2, d3, d4] }
  | _ => none }
def UtcDatesWrongFalsely : Prop := utcDatesRow.holds Try.pinned (OpenSpec.ofChange utcDatesWrong)

/-- 'seismonetlaw01.UtcTables': WHATEVER THE INPUT: true; the input reads as it did. -/
def utcTablesSpec : ChangeSpec := { name := "utcTables", fn := fun _ => fun
  | [d1, d2] => { results := [.lit (.bool true)], args := [d1, d2] }
  | _ => none }
def utcTablesRow : OpenClaim := { program := "ytnoggdhljijhpaa", sum := "4cdcf923e02ded496a61e9b5b87dec8c774fd7a3f45b618bf1e7926b7442be7d", func := "seismonet/seismonetlaw01.UtcTables", spec := "utcTables", unfollowed := true, recurses := true, apart := false }
def UtcTablesSaid : Prop := utcTablesRow.holds Try.pinned (OpenSpec.ofChange utcTablesSpec)

/-- ITS FALSE NEIGHBOUR: 'it returns false'. Refute it at one input. -/
def utcTablesWrong : ChangeSpec := { name := "utcTables", fn := fun _ => fun
  | [d1, d2] => { results := [.lit (.bool false)], args := [d1, d2] }
  | _ => none }
def UtcTablesWrongFalsely : Prop := utcTablesRow.holds Try.pinned (OpenSpec.ofChange utcTablesWrong)

/-- 'seismonetlaw01.UtcAscends': WHATEVER THE INPUT: true; the input reads as it did. -/
def utcAscendsSpec : ChangeSpec := { name := "utcAscends", fn := fun _ => fun
  | [d1, d2, d3] => { results := [.lit (.bool true)], args := [d1, d2, d3] }
  | _ => none }
def utcAscendsRow : OpenClaim := { program := "ytnoggdhljijhpaa", sum := "4cdcf923e02ded496a61e9b5b87dec8c774fd7a3f45b618bf1e7926b7442be7d", func := "seismonet/seismonetlaw01.UtcAscends", spec := "utcAscends", unfollowed := true, recurses := true, apart := false }
def UtcAscendsSaid : Prop := utcAscendsRow.holds Try.pinned (OpenSpec.ofChange utcAscendsSpec)

/-- ITS FALSE NEIGHBOUR: 'it returns false'. Refute it at one input. -/
def utcAscendsWrong : ChangeSpec := { name := "utcAscends", fn := fun _ => fun
  | [d1, d2, d3] => { results := [.lit (.bool false)], args := [d1, d2, d3] }
  | _ => none }
def UtcAscendsWrongFalsely : Prop := utcAscendsRow.holds Try.pinned (OpenSpec.ofChange utcAscendsWrong)

/-- 'seismonetlaw01.UtcBack': WHATEVER THE INPUT: true; the input reads as it did. -/
def utcBackSpec : ChangeSpec := { name := "utcBack", fn := fun _ => fun
  | [d1, d2] => { results := [.lit (.bool true)], args := [d1, d2] }
  | _ => none }
def utcBackRow : OpenClaim := { program := "ytnoggdhljijhpaa", sum := "4cdcf923e02ded496a61e9b5b87dec8c774fd7a3f45b618bf1e7926b7442be7d", func := "seismonet/seismonetlaw01.UtcBack", spec := "utcBack", unfollowed := true, recurses := true, apart := false }
def UtcBackSaid : Prop := utcBackRow.holds Try.pinned (OpenSpec.ofChange utcBackSpec)

/-- ITS FALSE NEIGHBOUR: 'it returns false'. Refute it at one input. -/
def utcBackWrong : ChangeSpec := { name := "utcBack", fn := fun _ => fun
  | [d1, d2] => { results := [.lit (.bool false)], args := [d1, d2] }
  | _ => none }
def UtcBackWrongFalsely : Prop := utcBackRow.holds Try.pinned (OpenSpec.ofChange utcBackWrong)

/- THE SECOND FORM. 'bulk': how many values and letters a reading holds, each counted each time it is reached (what is shared counts as often as it is met; a slice's spare places count too). A statement '..UptoSaid' is the law's where the arguments, and the package variables that the reading takes, are together of bulk at most 1048576: NARROWER than '..Said'. Prove '..Said' where nothing that the law and all that it calls make is longer than what came in: it says more and counts as full. Else prove '..UptoSaid'. A law counts once. -/
mutual
def uptoBulk {H : Type} : DataW H → Nat
  | .lit (.string bytes) => bytes.length + 1
  | .lit _ => 1
  | .nil => 1
  | .ptr d => uptoBulk d + 1
  | .slice elems spare => uptoBulkAll elems + uptoBulkAll spare + 1
  | .agg parts => uptoBulkAll parts + 1
  | .iface _ d => uptoBulk d + 1
  | .map entries => uptoBulkEntries entries + 1
  | .held _ => 1
def uptoBulkAll {H : Type} : List (DataW H) → Nat
  | [] => 0
  | d :: r => uptoBulk d + uptoBulkAll r
def uptoBulkEntries {H : Type} : List (Lit × DataW H) → Nat
  | [] => 0
  | x :: r => uptoBulkEntry x + uptoBulkEntries r
def uptoBulkEntry {H : Type} : Lit × DataW H → Nat
  | (.string bytes, d) => bytes.length + uptoBulk d + 1
  | (_, d) => uptoBulk d + 1
 end
def uptoSmall : (H : Type) → List (DataW H) → Bool := fun _ ds => decide (uptoBulkAll ds ≤ 1048576)
def OpenSpec.upto (s : _root_.Go.ChangeSpec) : _root_.Go.OpenSpec := { _root_.Go.OpenSpec.ofChange s with cond := some uptoSmall }

/-- 'seismonetlaw01.UtcDates', WHERE WHAT IT READS IS OF BULK AT MOST 1048576: true; the input reads as it did. -/
def utcDatesUptoRow : OpenClaim := { program := "ytnoggdhljijhpaa", sum := "4cdcf923e02ded496a61e9b5b87dec8c774fd7a3f45b618bf1e7926b7442be7d", func := "seismonet/seismonetlaw01.UtcDates", spec := "utcDates", unfollowed := true, recurses := true, apart := false, narrowed := true }
def UtcDatesUptoSaid : Prop := utcDatesUptoRow.holds Try.pinned (OpenSpec.upto utcDatesSpec)

/-- 'seismonetlaw01.UtcTables', WHERE WHAT IT READS IS OF BULK AT MOST 1048576: true; the input reads as it did. -/
def utcTablesUptoRow : OpenClaim := { program := "ytnoggdhljijhpaa", sum := "4cdcf923e02ded496a61e9b5b87dec8c774fd7a3f45b618bf1e7926b7442be7d", func := "seismonet/seismonetlaw01.UtcTables", spec := "utcTables", unfollowed := true, recurses := true, apart := false, narrowed := true }
def UtcTablesUptoSaid : Prop := utcTablesUptoRow.holds Try.pinned (OpenSpec.upto utcTablesSpec)

/-- 'seismonetlaw01.UtcAscends', WHERE WHAT IT READS IS OF BULK AT MOST 1048576: true; the input reads as it did. -/
def utcAscendsUptoRow : OpenClaim := { program := "ytnoggdhljijhpaa", sum := "4cdcf923e02ded496a61e9b5b87dec8c774fd7a3f45b618bf1e7926b7442be7d", func := "seismonet/seismonetlaw01.UtcAscends", spec := "utcAscends", unfollowed := true, recurses := true, apart := false, narrowed := true }
def UtcAscendsUptoSaid : Prop := utcAscendsUptoRow.holds Try.pinned (OpenSpec.upto utcAscendsSpec)

/-- 'seismonetlaw01.UtcBack', WHERE WHAT IT READS IS OF BULK AT MOST 1048576: true; the input reads as it did. -/
def utcBackUptoRow : OpenClaim := { program := "ytnoggdhljijhpaa", sum := "4cdcf923e02ded496a61e9b5b87dec8c774fd7a3f45b618bf1e7926b7442be7d", func := "seismonet/seismonetlaw01.UtcBack", spec := "utcBack", unfollowed := true, recurses := true, apart := false, narrowed := true }
def UtcBackUptoSaid : Prop := utcBackUptoRow.holds Try.pinned (OpenSpec.upto utcBackSpec)

end Rows
end Go.Proofs.Ytnoggdhljijhpaa
