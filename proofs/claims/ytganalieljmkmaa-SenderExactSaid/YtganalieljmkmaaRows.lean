/-
  No cell of these rows narrows 'for every input' (looked for: loops, veiled, ifaces, maps, wideKeys, modest, calm, conditions, laid).
  DERIVED. THE GIVEN ROWS OF THIS SEAT. 3 by the template 'for every input the law returns true; each argument reads behind the call as it read before'; 0 by the template 'total and deterministic' (their statements: YtganalieljmkmaaTotals.lean).
  GIVEN WITH THE SEED: the statements are not yours to turn. If you find one false, say at which input.
  Laid BY PROGRAM, IN A SANDBOX (cutbox-rows.mjs): the forced cells as the released guide's own fill.sh prints them over the translation efc099195d7431de… (all of the seat's roots in one cut). By AI agents, Wed Nov 11 2026. No macro, syntax, notation, axiom, sorry.
-/
import Derived.Test.YtganalieljmkmaaChecked
import GoSem.Claim
import GoSem.ClaimJoined
import GoSem.ClaimMapViews
import Derived.JoinedTies
import Derived.KernelRfl
namespace Go.Proofs.Ytganalieljmkmaa
/- THE CELL 'sum', in the pinned program and in every row, IS THE sha256 OF THE DUMP (.gsa) THAT YtganalieljmkmaaProg.lean LOADS. Nothing in Lean hashes anything: it is a label: what it is worth is what the hold of that sum in a sandbox is worth. -/
noncomputable def Try.pinned : Pinned := { name := "ytganalieljmkmaa", sum := "efc099195d7431deb5e4ef13d11edd5d41bc2e4bed0b8e67f3f24deb7f5bd0cf", checked := Try.checked }
namespace Rows
def none {H : Type} : Left H := { results := [], args := [] }

/-- 'seismonetlaw10.SenderExact': WHATEVER THE INPUT: true; the input reads as it did. -/
def senderExactSpec : ChangeSpec := { name := "senderExact", fn := fun _ => fun
  | [d1, d2, d3, d4, d5, d6, d7] => { results := [.lit (.bool true)], args := [d1, d2, d3, d4, d5, d6, d7] }
  | _ => none }
def senderExactRow : OpenClaim := { program := "ytganalieljmkmaa", sum := "efc099195d7431deb5e4ef13d11edd5d41bc2e4bed0b8e67f3f24deb7f5bd0cf", func := "seismonet/seismonetlaw10.SenderExact", spec := "senderExact", apart := false }
def SenderExactSaid : Prop := senderExactRow.holds Try.pinned (OpenSpec.ofChange senderExactSpec)

/-- ITS FALSE NEIGHBOUR: 'it returns false'. Refute it at one input. -/
def senderExactWrong : ChangeSpec := { name := "senderExact", fn := fun _ => fun
  | [d1, d2, d3, d4, d5, d6, d7] => { results := [.lit (.bool false)], args := [d1, d2, d3, d4, d5, d6, d7] }
  | _ => none }
def SenderExactWrongFalsely : Prop := senderExactRow.holds Try.pinned (OpenSpec.ofChange senderExactWrong)

/-- 'seismonetlaw10.SenderKeeps': WHATEVER THE INPUT: true; the input reads as it did. -/
def senderKeepsSpec : ChangeSpec := { name := "senderKeeps", fn := fun _ => fun
  | [d] => { results := [.lit (.bool true)], args := [d] }
  | _ => none }
def senderKeepsRow : OpenClaim := { program := "ytganalieljmkmaa", sum := "efc099195d7431deb5e4ef13d11edd5d41bc2e4bed0b8e67f3f24deb7f5bd0cf", func := "seismonet/seismonetlaw10.SenderKeeps", spec := "senderKeeps", apart := false }
def SenderKeepsSaid : Prop := senderKeepsRow.holds Try.pinned (OpenSpec.ofChange senderKeepsSpec)

/-- ITS FALSE NEIGHBOUR: 'it returns false'. Refute it at one input. -/
def senderKeepsWrong : ChangeSpec := { name := "senderKeeps", fn := fun _ => fun
  | [d] => { results := [.lit (.bool false)], args := [d] }
  | _ => none }
def SenderKeepsWrongFalsely : Prop := senderKeepsRow.holds Try.pinned (OpenSpec.ofChange senderKeepsWrong)

/-- 'seismonetlaw10.SenderAnswers': WHATEVER THE INPUT: true; the input reads as it did. -/
def senderAnswersSpec : ChangeSpec := { name := "senderAnswers", fn := fun _ => fun
  | [d1, d2] => { results := [.lit (.bool true)], args := [d1, d2] }
  | _ => none }
def senderAnswersRow : OpenClaim := { program := "ytganalieljmkmaa", sum := "efc099195d7431deb5e4ef13d11edd5d41bc2e4bed0b8e67f3f24deb7f5bd0cf", func := "seismonet/seismonetlaw10.SenderAnswers", spec := "senderAnswers", apart := false }
def SenderAnswersSaid : Prop := senderAnswersRow.holds Try.pinned (OpenSpec.ofChange senderAnswersSpec)

/-- ITS FALSE NEIGHBOUR: 'it returns false'. Refute it at one input. -/
def senderAnswersWrong : ChangeSpec := { name := "senderAnswers", fn := fun _ => fun
  | [d1, d2] => { results := [.lit (.bool false)], args := [d1, d2] }
  | _ => none }
def SenderAnswersWrongFalsely : Prop := senderAnswersRow.holds Try.pinned (OpenSpec.ofChange senderAnswersWrong)

/- THE SECOND FORM. 'bulk': how many values and letters a reading holds, each counted each time it is reached (what is shared counts as often as it is met; a slice's spare places count too). A statement '..UptoSaid' is the law's where the arguments, and the package variables that the reading takes, are together of bulk at most 1048576: NARROWER than '..Said'. Prove '..Said' where nothing that the law and all that it calls make is longer than what came in: it says more and counts as full. Else prove '..UptoSaid'. A law counts once. -/
mutual
def uptoBulk {H : Type} : DataW H → Nat
  | .lit (.string bytes) => bytes.length + 1
  | .lit _ => 1
  | .nil => 1
  | .ptr d => uptoBulk d + 1
  | .slice elems spare => uptoBulkAll elems + uptoBulkAll spare + 1
  | .agg parts => uptoBulkAll parts + 1
  | .iface _ d => uptoBulk d + 1
  | .map entries => uptoBulkEntries entries + 1
  | .held _ => 1
def uptoBulkAll {H : Type} : List (DataW H) → Nat
  | [] => 0
  | d :: r => uptoBulk d + uptoBulkAll r
def uptoBulkEntries {H : Type} : List (Lit × DataW H) → Nat
  | [] => 0
  | x :: r => uptoBulkEntry x + uptoBulkEntries r
def uptoBulkEntry {H : Type} : Lit × DataW H → Nat
  | (.string bytes, d) => bytes.length + uptoBulk d + 1
  | (_, d) => uptoBulk d + 1
 end
def uptoSmall : (H : Type) → List (DataW H) → Bool := fun _ ds => decide (uptoBulkAll ds ≤ 1048576)
def OpenSpec.upto (s : _root_.Go.ChangeSpec) : _root_.Go.OpenSpec := { _root_.Go.OpenSpec.ofChange s with cond := some uptoSmall }

/-- 'seismonetlaw10.SenderExact', WHERE WHAT IT READS IS OF BULK AT MOST 1048576: true; the input reads as it did. -/
def senderExactUptoRow : OpenClaim := { program := "ytganalieljmkmaa", sum := "efc099195d7431deb5e4ef13d11edd5d41bc2e4bed0b8e67f3f24deb7f5bd0cf", func := "seismonet/seismonetlaw10.SenderExact", spec := "senderExact", apart := false, narrowed := true }
def SenderExactUptoSaid : Prop := senderExactUptoRow.holds Try.pinned (OpenSpec.upto senderExactSpec)

/-- 'seismonetlaw10.SenderKeeps', WHERE WHAT IT READS IS OF BULK AT MOST 1048576: true; the input reads as it did. -/
def senderKeepsUptoRow : OpenClaim := { program := "ytganalieljmkmaa", sum := "efc099195d7431deb5e4ef13d11edd5d41bc2e4bed0b8e67f3f24deb7f5bd0cf", func := "seismonet/seismonetlaw10.SenderKeeps", spec := "senderKeeps", apart := false, narrowed := true }
def SenderKeepsUptoSaid : Prop := senderKeepsUptoRow.holds Try.pinned (OpenSpec.upto senderKeepsSpec)

/-- 'seismonetlaw10.SenderAnswers', WHERE WHAT IT READS IS OF BULK AT MOST 1048576: true; the input reads as it did. -/
def senderAnswersUptoRow : OpenClaim := { program := "ytganalieljmkmaa", sum := "efc099195d7431deb5e4ef13d11edd5d41bc2e4bed0b8e67f3f24deb7f5bd0cf", func := "seismonet/seismonetlaw10.SenderAnswers", spec := "senderAnswers", apart := false, narrowed := true }
def SenderAnswersUptoSaid : Prop := senderAnswersUptoRow.holds Try.pinned (OpenSpec.upto senderAnswersSpec)

end Rows
end Go.Proofs.Ytganalieljmkmaa
