/-
  No cell of these rows narrows 'for every input' (looked for: loops, veiled, ifaces, maps, wideKeys, modest, calm, conditions, laid).
  DERIVED. THE GIVEN ROWS OF THIS SEAT. 3 by the template 'for every input the law returns true; each argument reads behind the call as it read before'; 0 by the template 'total and deterministic' (their statements: YtgckppkfpccanaaTotals.lean).
  GIVEN WITH THE SEED: the statements are not yours to turn. If you find one false, say at which input.
  Laid BY PROGRAM, IN A SANDBOX (cutbox-rows.mjs): the forced cells as the released guide's own fill.sh prints them over the translation 9ea0456c2420d869… (all of the seat's roots in one cut). By AI agents, Wed Nov 11 2026. No macro, syntax, notation, axiom, sorry.
-/
import Derived.Test.YtgckppkfpccanaaChecked
import GoSem.Claim
import GoSem.ClaimJoined
import GoSem.ClaimMapViews
import Derived.JoinedTies
import Derived.KernelRfl
namespace Go.Proofs.Ytgckppkfpccanaa
/- THE CELL 'sum', in the pinned program and in every row, IS THE sha256 OF THE DUMP (.gsa) THAT YtgckppkfpccanaaProg.lean LOADS. Nothing in Lean hashes anything: it is a label: what it is worth is what the hold of that sum in a sandbox is worth. -/
noncomputable def Try.pinned : Pinned := { name := "ytgckppkfpccanaa", sum := "9ea0456c2420d869c47f8c60e34f58dc014fb3fdb1191ee470ef7262fed6ba06", checked := Try.checked }
namespace Rows
def none {H : Type} : Left H := { results := [], args := [] }

/-- 'seismonetlaw02.RateExact': WHATEVER THE INPUT: true; the input reads as it did. -/
def rateExactSpec : ChangeSpec := { name := "rateExact", fn := fun _ => fun
  | [d1, d2, d3, d4, d5, d6] => { results := [.lit (.bool true)], args := [d1, d2, d3, d4, d5, d6] }
  | _ => none }
def rateExactRow : OpenClaim := { program := "ytgckppkfpccanaa", sum := "9ea0456c2420d869c47f8c60e34f58dc014fb3fdb1191ee470ef7262fed6ba06", func := "seismonet/seismonetlaw02.RateExact", spec := "rateExact", apart := false }
def RateExactSaid : Prop := rateExactRow.holds Try.pinned (OpenSpec.ofChange rateExactSpec)

/-- ITS FALSE NEIGHBOUR: 'it returns false'. Refute it at one input. -/
def rateExactWrong : ChangeSpec := { name := "rateExact", fn := fun _ => fun
  | [d1, d2, d3, d4, d5, d6] => { results := [.lit (.bool false)], args := [d1, d2, d3, d4, d5, d6] }
  | _ => none }
def RateExactWrongFalsely : Prop := rateExactRow.holds Try.pinned (OpenSpec.ofChange rateExactWrong)

/-- 'seismonetlaw02.RateNearest': WHATEVER THE INPUT: true; the input reads as it did. -/
def rateNearestSpec : ChangeSpec := { name := "rateNearest", fn := fun _ => fun
  | [d1, d2, d3] => { results := [.lit (.bool true)], args := [d1, d2, d3] }
  | _ => none }
def rateNearestRow : OpenClaim := { program := "ytgckppkfpccanaa", sum := "9ea0456c2420d869c47f8c60e34f58dc014fb3fdb1191ee470ef7262fed6ba06", func := "seismonet/seismonetlaw02.RateNearest", spec := "rateNearest", apart := false }
def RateNearestSaid : Prop := rateNearestRow.holds Try.pinned (OpenSpec.ofChange rateNearestSpec)

/-- ITS FALSE NEIGHBOUR: 'it returns false'. Refute it at one input. -/
def rateNearestWrong : ChangeSpec := { name := "rateNearest", fn := fun _ => fun
  | [d1, d2, d3] => { results := [.lit (.bool false)], args := [d1, d2, d3] }
  | _ => none }
def RateNearestWrongFalsely : Prop := rateNearestRow.holds Try.pinned (OpenSpec.ofChange rateNearestWrong)

/-- 'seismonetlaw02.RateSlower': WHATEVER THE INPUT: true; the input reads as it did. -/
def rateSlowerSpec : ChangeSpec := { name := "rateSlower", fn := fun _ => fun
  | [d1, d2, d3] => { results := [.lit (.bool true)], args := [d1, d2, d3] }
  | _ => none }
def rateSlowerRow : OpenClaim := { program := "ytgckppkfpccanaa", sum := "9ea0456c2420d869c47f8c60e34f58dc014fb3fdb1191ee470ef7262fed6ba06", func := "seismonet/seismonetlaw02.RateSlower", spec := "rateSlower", apart := false }
def RateSlowerSaid : Prop := rateSlowerRow.holds Try.pinned (OpenSpec.ofChange rateSlowerSpec)

/-- ITS FALSE NEIGHBOUR: 'it returns false'. Refute it at one input. -/
def rateSlowerWrong : ChangeSpec := { name := "rateSlower", fn := fun _ => fun
  | [d1, d2, d3] => { results := [.lit (.bool false)], args := [d1, d2, d3] }
  | _ => none }
def RateSlowerWrongFalsely : Prop := rateSlowerRow.holds Try.pinned (OpenSpec.ofChange rateSlowerWrong)

/- THE SECOND FORM. 'bulk': how many values and letters a reading holds, each counted each time it is reached (what is shared counts as often as it is met; a slice's spare places count too). A statement '..UptoSaid' is the law's where the arguments, and the package variables that the reading takes, are together of bulk at most 1048576: NARROWER than '..Said'. Prove '..Said' where nothing that the law and all that it calls make is longer than what came in: it says more and counts as full. Else prove '..UptoSaid'. A law counts once. -/
mutual
def uptoBulk {H : Type} : DataW H → Nat
  | .lit (.string bytes) => bytes.length + 1
  | .lit _ => 1
  | .nil => 1
  | .ptr d => uptoBulk d + 1
  | .slice elems spare => uptoBulkAll elems + uptoBulkAll spare + 1
  | .agg parts => uptoBulkAll parts + 1
  | .iface _ d => uptoBulk d + 1
  | .map entries => uptoBulkEntries entries + 1
  | .held _ => 1
def uptoBulkAll {H : Type} : List (DataW H) → Nat
  | [] => 0
  | d :: r => uptoBulk d + uptoBulkAll r
def uptoBulkEntries {H : Type} : List (Lit × DataW H) → Nat
  | [] => 0
  | x :: r => uptoBulkEntry x + uptoBulkEntries r
def uptoBulkEntry {H : Type} : Lit × DataW H → Nat
  | (.string bytes, d) => bytes.length + uptoBulk d + 1
  | (_, d) => uptoBulk d + 1
 end
def uptoSmall : (H : Type) → List (DataW H) → Bool := fun _ ds => decide (uptoBulkAll ds ≤ 1048576)
def OpenSpec.upto (s : _root_.Go.ChangeSpec) : _root_.Go.OpenSpec := { _root_.Go.OpenSpec.ofChange s with cond := some uptoSmall }

/-- 'seismonetlaw02.RateExact', WHERE WHAT IT READS IS OF BULK AT MOST 1048576: true; the input reads as it did. -/
def rateExactUptoRow : OpenClaim := { program := "ytgckppkfpccanaa", sum := "9ea0456c2420d869c47f8c60e34f58dc014fb3fdb1191ee470ef7262fed6ba06", func := "seismonet/seismonetlaw02.RateExact", spec := "rateExact", apart := false, narrowed := true }
def RateExactUptoSaid : Prop := rateExactUptoRow.holds Try.pinned (OpenSpec.upto rateExactSpec)

/-- 'seismonetlaw02.RateNearest', WHERE WHAT IT READS IS OF BULK AT MOST 1048576: true; the input reads as it did. -/
def rateNearestUptoRow : OpenClaim := { program := "ytgckppkfpccanaa", sum := "9ea0456c2420d869c47f8c60e34f58dc014fb3fdb1191ee470ef7262fed6ba06", func := "seismonet/seismonetlaw02.RateNearest", spec := "rateNearest", apart := false, narrowed := true }
def RateNearestUptoSaid : Prop := rateNearestUptoRow.holds Try.pinned (OpenSpec.upto rateNearestSpec)

/-- 'seismonetlaw02.RateSlower', WHERE WHAT IT READS IS OF BULK AT MOST 1048576: true; the input reads as it did. -/
def rateSlowerUptoRow : OpenClaim := { program := "ytgckppkfpccanaa", sum := "9ea0456c2420d869c47f8c60e34f58dc014fb3fdb1191ee470ef7262fed6ba06", func := "seismonet/seismonetlaw02.RateSlower", spec := "rateSlower", apart := false, narrowed := true }
def RateSlowerUptoSaid : Prop := rateSlowerUptoRow.holds Try.pinned (OpenSpec.upto rateSlowerSpec)

end Rows
end Go.Proofs.Ytgckppkfpccanaa
