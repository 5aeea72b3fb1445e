/-
  No cell of these rows narrows 'for every input' (looked for: loops, veiled, ifaces, maps, wideKeys, modest, calm, conditions, laid).
  DERIVED. THE GIVEN ROWS OF THIS SEAT. 8 by the template 'for every input the law returns true; each argument reads behind the call as it read before'; 0 by the template 'total and deterministic' (their statements: YtfmhfhggogjbkaaTotals.lean).
  GIVEN WITH THE SEED: the statements are not yours to turn. If you find one false, say at which input.
  Laid BY PROGRAM, IN A SANDBOX (cutbox-rows.mjs): the forced cells as the released guide's own fill.sh prints them over the translation 2323c185a2aac4f2… (all of the seat's roots in one cut). By AI agents, Wed Nov 11 2026. No macro, syntax, notation, axiom, sorry.
-/
import Derived.Test.YtfmhfhggogjbkaaChecked
import GoSem.Claim
import GoSem.ClaimJoined
import GoSem.ClaimMapViews
import Derived.JoinedTies
import Derived.KernelRfl
namespace Go.Proofs.Ytfmhfhggogjbkaa
/- THE CELL 'sum', in the pinned program and in every row, IS THE sha256 OF THE DUMP (.gsa) THAT YtfmhfhggogjbkaaProg.lean LOADS. Nothing in Lean hashes anything: it is a label: what it is worth is what the hold of that sum in a sandbox is worth. -/
noncomputable def Try.pinned : Pinned := { name := "ytfmhfhggogjbkaa", sum := "2323c185a2aac4f27905952a1e63d40d3790b422733a9d40df4b07fe9c26ea8c", checked := Try.checked }
namespace Rows
def none {H : Type} : Left H := { results := [], args := [] }

/-- 'seismonetlaw08.SpanExact': WHATEVER THE INPUT: true; the input reads as it did. -/
def spanExactSpec : ChangeSpec := { name := "spanExact", fn := fun _ => fun
  | [d1, d2, d3, d4, d5] => { results := [.lit (.bool true)], args := [d1, d2, d3, d4, d5] }
  | _ => none }
def spanExactRow : OpenClaim := { program := "ytfmhfhggogjbkaa", sum := "2323c185a2aac4f27905952a1e63d40d3790b422733a9d40df4b07fe9c26ea8c", func := "seismonet/seismonetlaw08.SpanExact", spec := "spanExact", unfollowed := true, recurses := true, apart := false }
def SpanExactSaid : Prop := spanExactRow.holds Try.pinned (OpenSpec.ofChange spanExactSpec)

/-- ITS FALSE NEIGHBOUR: 'it returns false'. Refute it at one input. -/
def spanExactWrong : ChangeSpec := { name := "spanExact", fn := fun _ => fun
  | [d1, d2, d3, d4, d5] => { results := [.lit (.bool false)], args := [d1, d2, d3, d4, d5] }
  | _ => none }
def SpanExactWrongFalsely : Prop := spanExactRow.holds Try.pinned (OpenSpec.ofChange spanExactWrong)

/-- 'seismonetlaw11.ReceiverExact': WHATEVER THE INPUT: true; the input reads as it did. -/
def receiverExactSpec : ChangeSpec := { name := "receiverExact", fn := fun _ => fun
  | [d1, d2, d3, d4, d5, d6] => { results := [.lit (.bool true)], args := [d1, d2, d3, d4, d5, d6] }
  | _ => none }
def receiverExactRow : OpenClaim := { program := "ytfmhfhggogjbkaa", sum := "2323c185a2aac4f27905952a1e63d40d3790b422733a9d40df4b07fe9c26ea8c", func := "seismonet/seismonetlaw11.ReceiverExact", spec := "receiverExact", unfollowed := true, recurses := true, apart := false }
def ReceiverExactSaid : Prop := receiverExactRow.holds Try.pinned (OpenSpec.ofChange receiverExactSpec)

/-- ITS FALSE NEIGHBOUR: 'it returns false'. Refute it at one input. -/
def receiverExactWrong : ChangeSpec := { name := "receiverExact", fn := fun _ => fun
  | [d1, d2, d3, d4, d5, d6] => { results := [.lit (.bool false)], args := [d1, d2, d3, d4, d5, d6] }
  | _ => none }
def ReceiverExactWrongFalsely : Prop := receiverExactRow.holds Try.pinned (OpenSpec.ofChange receiverExactWrong)

/-- 'seismonetlaw08.SpanMembers': WHATEVER THE INPUT: true; the input reads as it did. -/
def spanMembersSpec : ChangeSpec := { name := "spanMembers", fn := fun _ => fun
  | [d1, d2] => { results := [.lit (.bool true)], args := [d1, d2] }
  | _ => none }
def spanMembersRow : OpenClaim := { program := "ytfmhfhggogjbkaa", sum := "2323c185a2aac4f27905952a1e63d40d3790b422733a9d40df4b07fe9c26ea8c", func := "seismonet/seismonetlaw08.SpanMembers", spec := "spanMembers", unfollowed := true, recurses := true, apart := false }
def SpanMembersSaid : Prop := spanMembersRow.holds Try.pinned (OpenSpec.ofChange spanMembersSpec)

/-- ITS FALSE NEIGHBOUR: 'it returns false'. Refute it at one input. -/
def spanMembersWrong : ChangeSpec := { name := "spanMembers", fn := fun _ => fun
  | [d1, d2] => { results := [.lit (.bool false)], args := [d1, d2] }
  | _ => none }
def SpanMembersWrongFalsely : Prop := spanMembersRow.holds Try.pinned (OpenSpec.ofChange spanMembersWrong)

/-- 'seismonetlaw08.SpanAlgebra': WHATEVER THE INPUT: true; the input reads as it did. -/
def spanAlgebraSpec : ChangeSpec := { name := "spanAlgebra", fn := fun _ => fun
  | [d] => { results := [.lit (.bool true)], args := [d] }
  | _ => none }
def spanAlgebraRow : OpenClaim := { program := "ytfmhfhggogjbkaa", sum := "2323c185a2aac4f27905952a1e63d40d3790b422733a9d40df4b07fe9c26ea8c", func := "seismonet/seismonetlaw08.SpanAlgebra", spec := "spanAlgebra", unfollowed := true, recurses := true, apart := false }
def SpanAlgebraSaid : Prop := spanAlgebraRow.holds Try.pinned (OpenSpec.ofChange spanAlgebraSpec)

/-- ITS FALSE NEIGHBOUR: 'it returns false'. Refute it at one input. -/
def spanAlgebraWrong : ChangeSpec := { name := "spanAlgebra", fn := fun _ => fun
  | [d] => { results := [.lit (.bool false)], args := [d] }
  | _ => none }
def SpanAlgebraWrongFalsely : Prop := spanAlgebraRow.holds Try.pinned (OpenSpec.ofChange spanAlgebraWrong)

/-- 'seismonetlaw08.SpanNumbers': WHATEVER THE INPUT: true; the input reads as it did. -/
def spanNumbersSpec : ChangeSpec := { name := "spanNumbers", fn := fun _ => fun
  | [d1, d2, d3] => { results := [.lit (.bool true)], args := [d1, d2, d3] }
  | _ => none }
def spanNumbersRow : OpenClaim := { program := "ytfmhfhggogjbkaa", sum := "2323c185a2aac4f27905952a1e63d40d3790b422733a9d40df4b07fe9c26ea8c", func := "seismonet/seismonetlaw08.SpanNumbers", spec := "spanNumbers", unfollowed := true, recurses := true, apart := false }
def SpanNumbersSaid : Prop := spanNumbersRow.holds Try.pinned (OpenSpec.ofChange spanNumbersSpec)

/-- ITS FALSE NEIGHBOUR: 'it returns false'. Refute it at one input. -/
def spanNumbersWrong : ChangeSpec := { name := "spanNumbers", fn := fun _ => fun
  | [d1, d2, d3] => { results := [.lit (.bool false)], args := [d1, d2, d3] }
  | _ => none }
def SpanNumbersWrongFalsely : Prop := spanNumbersRow.holds Try.pinned (OpenSpec.ofChange spanNumbersWrong)

/-- 'seismonetlaw11.ReceiverOrder': WHATEVER THE INPUT: true; the input reads as it did. -/
def receiverOrderSpec : ChangeSpec := { name := "receiverOrder", fn := fun _ => fun
  | [d1, d2] => { results := [.lit (.bool true)], args := [d1, d2] }
  | _ => none }
def receiverOrderRow : OpenClaim := { program := "ytfmhfhggogjbkaa", sum := "2323c185a2aac4f27905952a1e63d40d3790b422733a9d40df4b07fe9c26ea8c", func := "seismonet/seismonetlaw11.ReceiverOrder", spec := "receiverOrder", unfollowed := true, recurses := true, apart := false }
def ReceiverOrderSaid : Prop := receiverOrderRow.holds Try.pinned (OpenSpec.ofChange receiverOrderSpec)

/-- ITS FALSE NEIGHBOUR: 'it returns false'. Refute it at one input. -/
def receiverOrderWrong : ChangeSpec := { name := "receiverOrder", fn := fun _ => fun
  | [d1, d2] => { results := [.lit (.bool false)], args := [d1, d2] }
  | _ => none }
def ReceiverOrderWrongFalsely : Prop := receiverOrderRow.holds Try.pinned (OpenSpec.ofChange receiverOrderWrong)

/-- 'seismonetlaw11.ReceiverOnce': WHATEVER THE INPUT: true; the input reads as it did. -/
def receiverOnceSpec : ChangeSpec := { name := "receiverOnce", fn := fun _ => fun
  | [d] => { results := [.lit (.bool true)], args := [d] }
  | _ => none }
def receiverOnceRow : OpenClaim := { program := "ytfmhfhggogjbkaa", sum := "2323c185a2aac4f27905952a1e63d40d3790b422733a9d40df4b07fe9c26ea8c", func := "seismonet/seismonetlaw11.ReceiverOnce", spec := "receiverOnce", unfollowed := true, recurses := true, apart := false }
def ReceiverOnceSaid : Prop := receiverOnceRow.holds Try.pinned (OpenSpec.ofChange receiverOnceSpec)

/-- ITS FALSE NEIGHBOUR: 'it returns false'. Refute it at one input. -/
def receiverOnceWrong : ChangeSpec := { name := "receiverOnce", fn := fun _ => fun
  | [d] => { results := [.lit (.bool false)], args := [d] }
  | _ => none }
def ReceiverOnceWrongFalsely : Prop := receiverOnceRow.holds Try.pinned (OpenSpec.ofChange receiverOnceWrong)

/-- 'seismonetlaw11.ReceiverDivides': WHATEVER THE INPUT: true; the input reads as it did. -/
def receiverDividesSpec : ChangeSpec := { name := "receiverDivides", fn := fun _ => fun
  | [d1, d2] => { results := [.lit (.bool true)], args := [d1, d2] }
  | _ => none }
def receiverDividesRow : OpenClaim := { program := "ytfmhfhggogjbkaa", sum := "2323c185a2aac4f27905952a1e63d40d3790b422733a9d40df4b07fe9c26ea8c", func := "seismonet/seismonetlaw11.ReceiverDivides", spec := "receiverDivides", unfollowed := true, recurses := true, apart := false }
def ReceiverDividesSaid : Prop := receiverDividesRow.holds Try.pinned (OpenSpec.ofChange receiverDividesSpec)

/-- ITS FALSE NEIGHBOUR: 'it returns false'. Refute it at one input. -/
def receiverDividesWrong : ChangeSpec := { name := "receiverDivides", fn := fun _ => fun
  | [d1, d2] => { results := [.lit (.bool false)], args := [d1, d2] }
  | _ => none }
def ReceiverDividesWrongFalsely : Prop := receiverDividesRow.holds Try.pinned (OpenSpec.ofChange receiverDividesWrong)

/- THE SECOND FORM. 'bulk': how many values and letters a reading holds, each counted each time it is reached (what is shared counts as often as it is met; a slice's spare places count too). A statement '..UptoSaid' is the law's where the arguments, and the package variables that the reading takes, are together of bulk at most 1048576: NARROWER than '..Said'. Prove '..Said' where nothing that the law and all that it calls make is longer than what came in: it says more and counts as full. Else prove '..UptoSaid'. A law counts once. -/
mutual
def uptoBulk {H : Type} : DataW H → Nat
  | .lit (.string bytes) => bytes.length + 1
  | .lit _ => 1
  | .nil => 1
  | .ptr d => uptoBulk d + 1
  | .slice elems spare => uptoBulkAll elems + uptoBulkAll spare + 1
  | .agg parts => uptoBulkAll parts + 1
  | .iface _ d => uptoBulk d + 1
  | .map entries => uptoBulkEntries entries + 1
  | .held _ => 1
def uptoBulkAll {H : Type} : List (DataW H) → Nat
  | [] => 0
  | d :: r => uptoBulk d + uptoBulkAll r
def uptoBulkEntries {H : Type} : List (Lit × DataW H) → Nat
  | [] => 0
  | x :: r => uptoBulkEntry x + uptoBulkEntries r
def uptoBulkEntry {H : Type} : Lit × DataW H → Nat
  | (.string bytes, d) => bytes.length + uptoBulk d + 1
  | (_, d) => uptoBulk d + 1
 end
def uptoSmall : (H : Type) → List (DataW H) → Bool := fun _ ds => decide (uptoBulkAll ds ≤ 1048576)
def OpenSpec.upto (s : _root_.Go.ChangeSpec) : _root_.Go.OpenSpec := { _root_.Go.OpenSpec.ofChange s with cond := some uptoSmall }

/-- 'seismonetlaw08.SpanExact', WHERE WHAT IT READS IS OF BULK AT MOST 1048576: true; the input reads as it did. -/
def spanExactUptoRow : OpenClaim := { program := "ytfmhfhggogjbkaa", sum := "2323c185a2aac4f27905952a1e63d40d3790b422733a9d40df4b07fe9c26ea8c", func := "seismonet/seismonetlaw08.SpanExact", spec := "spanExact", unfollowed := true, recurses := true, apart := false, narrowed := true }
def SpanExactUptoSaid : Prop := spanExactUptoRow.holds Try.pinned (OpenSpec.upto spanExactSpec)

/-- 'seismonetlaw11.ReceiverExact', WHERE WHAT IT READS IS OF BULK AT MOST 1048576: true; the input reads as it did. -/
def receiverExactUptoRow : OpenClaim := { program := "ytfmhfhggogjbkaa", sum := "2323c185a2aac4f27905952a1e63d40d3790b422733a9d40df4b07fe9c26ea8c", func := "seismonet/seismonetlaw11.ReceiverExact", spec := "receiverExact", unfollowed := true, recurses := true, apart := false, narrowed := true }
def ReceiverExactUptoSaid : Prop := receiverExactUptoRow.holds Try.pinned (OpenSpec.upto receiverExactSpec)

/-- 'seismonetlaw08.SpanMembers', WHERE WHAT IT READS IS OF BULK AT MOST 1048576: true; the input reads as it did. -/
def spanMembersUptoRow : OpenClaim := { program := "ytfmhfhggogjbkaa", sum := "2323c185a2aac4f27905952a1e63d40d3790b422733a9d40df4b07fe9c26ea8c", func := "seismonet/seismonetlaw08.SpanMembers", spec := "spanMembers", unfollowed := true, recurses := true, apart := false, narrowed := true }
def SpanMembersUptoSaid : Prop := spanMembersUptoRow.holds Try.pinned (OpenSpec.upto spanMembersSpec)

/-- 'seismonetlaw08.SpanAlgebra', WHERE WHAT IT READS IS OF BULK AT MOST 1048576: true; the input reads as it did. -/
def spanAlgebraUptoRow : OpenClaim := { program := "ytfmhfhggogjbkaa", sum := "2323c185a2aac4f27905952a1e63d40d3790b422733a9d40df4b07fe9c26ea8c", func := "seismonet/seismonetlaw08.SpanAlgebra", spec := "spanAlgebra", unfollowed := true, recurses := true, apart := false, narrowed := true }
def SpanAlgebraUptoSaid : Prop := spanAlgebraUptoRow.holds Try.pinned (OpenSpec.upto spanAlgebraSpec)

/-- 'seismonetlaw08.SpanNumbers', WHERE WHAT IT READS IS OF BULK AT MOST 1048576: true; the input reads as it did. -/
def spanNumbersUptoRow : OpenClaim := { program := "ytfmhfhggogjbkaa", sum := "2323c185a2aac4f27905952a1e63d40d3790b422733a9d40df4b07fe9c26ea8c", func := "seismonet/seismonetlaw08.SpanNumbers", spec := "spanNumbers", unfollowed := true, recurses := true, apart := false, narrowed := true }
def SpanNumbersUptoSaid : Prop := spanNumbersUptoRow.holds Try.pinned (OpenSpec.upto spanNumbersSpec)

/-- 'seismonetlaw11.ReceiverOrder', WHERE WHAT IT READS IS OF BULK AT MOST 1048576: true; the input reads as it did. -/
def receiverOrderUptoRow : OpenClaim := { program := "ytfmhfhggogjbkaa", sum := "2323c185a2aac4f27905952a1e63d40d3790b422733a9d40df4b07fe9c26ea8c", func := "seismonet/seismonetlaw11.ReceiverOrder", spec := "receiverOrder", unfollowed := true, recurses := true, apart := false, narrowed := true }
def ReceiverOrderUptoSaid : Prop := receiverOrderUptoRow.holds Try.pinned (OpenSpec.upto receiverOrderSpec)

/-- 'seismonetlaw11.ReceiverOnce', WHERE WHAT IT READS IS OF BULK AT MOST 1048576: true; the input reads as it did. -/
def receiverOnceUptoRow : OpenClaim := { program := "ytfmhfhggogjbkaa", sum := "2323c185a2aac4f27905952a1e63d40d3790b422733a9d40df4b07fe9c26ea8c", func := "seismonet/seismonetlaw11.ReceiverOnce", spec := "receiverOnce", unfollowed := true, recurses := true, apart := false, narrowed := true }
def ReceiverOnceUptoSaid : Prop := receiverOnceUptoRow.holds Try.pinned (OpenSpec.upto receiverOnceSpec)

/-- 'seismonetlaw11.ReceiverDivides', WHERE WHAT IT READS IS OF BULK AT MOST 1048576: true; the input reads as it did. -/
def receiverDividesUptoRow : OpenClaim := { program := "ytfmhfhggogjbkaa", sum := "2323c185a2aac4f27905952a1e63d40d3790b422733a9d40df4b07fe9c26ea8c", func := "seismonet/seismonetlaw11.ReceiverDivides", spec := "receiverDivides", unfollowed := true, recurses := true, apart := false, narrowed := true }
def ReceiverDividesUptoSaid : Prop := receiverDividesUptoRow.holds Try.pinned (OpenSpec.upto receiverDividesSpec)

end Rows
end Go.Proofs.Ytfmhfhggogjbkaa
