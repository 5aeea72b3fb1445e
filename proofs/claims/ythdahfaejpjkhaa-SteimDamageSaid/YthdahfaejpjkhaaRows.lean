/-
  No cell of these rows narrows 'for every input' (looked for: loops, veiled, ifaces, maps, wideKeys, modest, calm, conditions, laid).
  DERIVED. THE GIVEN ROWS OF THIS SEAT. 4 by the template 'for every input the law returns true; each argument reads behind the call as it read before'; 0 by the template 'total and deterministic' (their statements: YthdahfaejpjkhaaTotals.lean).
  GIVEN WITH THE SEED: the statements are not yours to turn. If you find one false, say at which input.
  Laid BY PROGRAM, IN A SANDBOX (cutbox-rows.mjs): the forced cells as the released guide's own fill.sh prints them over the translation 856b2c69e609f354… (all of the seat's roots in one cut). By AI agents, Wed Nov 11 2026. No macro, syntax, notation, axiom, sorry.
-/
import Derived.Test.YthdahfaejpjkhaaChecked
import GoSem.Claim
import GoSem.ClaimJoined
import GoSem.ClaimMapViews
import Derived.JoinedTies
import Derived.KernelRfl
namespace Go.Proofs.Ythdahfaejpjkhaa
/- THE CELL 'sum', in the pinned program and in every row, IS THE sha256 OF THE DUMP (.gsa) THAT YthdahfaejpjkhaaProg.lean LOADS. Nothing in Lean hashes anything: it is a label: what it is worth is what the hold of that sum in a sandbox is worth. -/
noncomputable def Try.pinned : Pinned := { name := "ythdahfaejpjkhaa", sum := "856b2c69e609f354275e4859bcba6fe1daf8a8fd353c69a12158c5efae7a7988", checked := Try.checked }
namespace Rows
def none {H : Type} : Left H := { results := [], args := [] }

/-- 'seismonetlaw05.SteimBack': WHATEVER THE INPUT: true; the input reads as it did. -/
def steimBackSpec : ChangeSpec := { name := "steimBack", fn := fun _ => fun
  | [d] => { results := [.lit (.bool true)], args := [d] }
  | _ => none }
def steimBackRow : OpenClaim := { program := "ythdahfaejpjkhaa", sum := "856b2c69e609f354275e4859bcba6fe1daf8a8fd353c69a12158c5efae7a7988", func := "seismonet/seismonetlaw05.SteimBack", spec := "steimBack", inPlace := ["internal/abi.NoEscape", "internal/bytealg.MakeNoZero"], apart := false }
def SteimBackSaid : Prop := steimBackRow.holds Try.pinned (OpenSpec.ofChange steimBackSpec)

/-- ITS FALSE NEIGHBOUR: 'it returns false'. Refute it at one input. -/
def steimBackWrong : ChangeSpec := { name := "steimBack", fn := fun _ => fun
  | [d] => { results := [.lit (.bool false)], args := [d] }
  | _ => none }
def SteimBackWrongFalsely : Prop := steimBackRow.holds Try.pinned (OpenSpec.ofChange steimBackWrong)

/-- 'seismonetlaw05.SteimSizes': WHATEVER THE INPUT: true; the input reads as it did. -/
def steimSizesSpec : ChangeSpec := { name := "steimSizes", fn := fun _ => fun
  | [d1, d2] => { results := [.lit (.bool true)], args := [d1, d2] }
  | _ => none }
def steimSizesRow : OpenClaim := { program := "ythdahfaejpjkhaa", sum := "856b2c69e609f354275e4859bcba6fe1daf8a8fd353c69a12158c5efae7a7988", func := "seismonet/seismonetlaw05.SteimSizes", spec := "steimSizes", inPlace := ["internal/abi.NoEscape", "internal/bytealg.MakeNoZero"], apart := false }
def SteimSizesSaid : Prop := steimSizesRow.holds Try.pinned (OpenSpec.ofChange steimSizesSpec)

/-- ITS FALSE NEIGHBOUR: 'it returns false'. Refute it at one input. -/
def steimSizesWrong : ChangeSpec := { name := "steimSizes", fn := fun _ => fun
  | [d1, d2] => { results := [.lit (.bool false)], args := [d1, d2] }
  | _ => none }
def SteimSizesWrongFalsely : Prop := steimSizesRow.holds Try.pinned (OpenSpec.ofChange steimSizesWrong)

/-- 'seismonetlaw05.SteimWords': WHATEVER THE INPUT: true; the input reads as it did. -/
def steimWordsSpec : ChangeSpec := { name := "steimWords", fn := fun _ => fun
  | [d1, d2, d3] => { results := [.lit (.bool true)], args := [d1, d2, d3] }
  | _ => none }
def steimWordsRow : OpenClaim := { program := "ythdahfaejpjkhaa", sum := "856b2c69e609f354275e4859bcba6fe1daf8a8fd353c69a12158c5efae7a7988", func := "seismonet/seismonetlaw05.SteimWords", spec := "steimWords", inPlace := ["internal/abi.NoEscape", "internal/bytealg.MakeNoZero"], apart := false }
def SteimWordsSaid : Prop := steimWordsRow.holds Try.pinned (OpenSpec.ofChange steimWordsSpec)

/-- ITS FALSE NEIGHBOUR: 'it returns false'. Refute it at one input. -/
def steimWordsWrong : ChangeSpec := { name := "steimWords", fn := fun _ => fun
  | [d1, d2, d3] => { results := [.lit (.bool false)], args := [d1, d2, d3] }
  | _ => none }
def SteimWordsWrongFalsely : Prop := steimWordsRow.holds Try.pinned (OpenSpec.ofChange steimWordsWrong)

/-- 'seismonetlaw05.SteimDamage': WHATEVER THE INPUT: true; the input reads as it did. -/
def steimDamageSpec : ChangeSpec := { name := "steimDamage", fn := fun _ => fun
  | [d1, d2] => { results := [.lit (.bool true)], args := [d1, d2] }
  | _ => none }
def steimDamageRow : OpenClaim := { program := "ythdahfaejpjkhaa", sum := "856b2c69e609f354275e4859bcba6fe1daf8a8fd353c69a12158c5efae7a7988", func := "seismonet/seismonetlaw05.SteimDamage", spec := "steimDamage", inPlace := ["internal/abi.NoEscape", "internal/bytealg.MakeNoZero"], apart := false }
def SteimDamageSaid : Prop := steimDamageRow.holds Try.pinned (OpenSpec.ofChange steimDamageSpec)

/-- ITS FALSE NEIGHBOUR: 'it returns false'. Refute it at one input. -/
def steimDamageWrong : ChangeSpec := { name := "steimDamage", fn := fun _ => fun
  | [d1, d2] => { results := [.lit (.bool false)], args := [d1, d2] }
  | _ => none }
def SteimDamageWrongFalsely : Prop := steimDamageRow.holds Try.pinned (OpenSpec.ofChange steimDamageWrong)

/- THE SECOND FORM. 'bulk': how many values and letters a reading holds, each counted each time it is reached (what is shared counts as often as it is met; a slice's spare places count too). A statement '..UptoSaid' is the law's where the arguments, and the package variables that the reading takes, are together of bulk at most 1048576: NARROWER than '..Said'. Prove '..Said' where nothing that the law and all that it calls make is longer than what came in: it says more and counts as full. Else prove '..UptoSaid'. A law counts once. -/
mutual
def uptoBulk {H : Type} : DataW H → Nat
  | .lit (.string bytes) => bytes.length + 1
  | .lit _ => 1
  | .nil => 1
  | .ptr d => uptoBulk d + 1
  | .slice elems spare => uptoBulkAll elems + uptoBulkAll spare + 1
  | .agg parts => uptoBulkAll parts + 1
  | .iface _ d => uptoBulk d + 1
  | .map entries => uptoBulkEntries entries + 1
  | .held _ => 1
def uptoBulkAll {H : Type} : List (DataW H) → Nat
  | [] => 0
  | d :: r => uptoBulk d + uptoBulkAll r
def uptoBulkEntries {H : Type} : List (Lit × DataW H) → Nat
  | [] => 0
  | x :: r => uptoBulkEntry x + uptoBulkEntries r
def uptoBulkEntry {H : Type} : Lit × DataW H → Nat
  | (.string bytes, d) => bytes.length + uptoBulk d + 1
  | (_, d) => uptoBulk d + 1
 end
def uptoSmall : (H : Type) → List (DataW H) → Bool := fun _ ds => decide (uptoBulkAll ds ≤ 1048576)
def OpenSpec.upto (s : _root_.Go.ChangeSpec) : _root_.Go.OpenSpec := { _root_.Go.OpenSpec.ofChange s with cond := some uptoSmall }

/-- 'seismonetlaw05.SteimBack', WHERE WHAT IT READS IS OF BULK AT MOST 1048576: true; the input reads as it did. -/
def steimBackUptoRow : OpenClaim := { program := "ythdahfaejpjkhaa", sum := "856b2c69e609f354275e4859bcba6fe1daf8a8fd353c69a12158c5efae7a7988", func := "seismonet/seismonetlaw05.SteimBack", spec := "steimBack", inPlace := ["internal/abi.NoEscape", "internal/bytealg.MakeNoZero"], apart := false, narrowed := true }
def SteimBackUptoSaid : Prop := steimBackUptoRow.holds Try.pinned (OpenSpec.upto steimBackSpec)

/-- 'seismonetlaw05.SteimSizes', WHERE WHAT IT READS IS OF BULK AT MOST 1048576: true; the input reads as it did. -/
def steimSizesUptoRow : OpenClaim := { program := "ythdahfaejpjkhaa", sum := "856b2c69e609f354275e4859bcba6fe1daf8a8fd353c69a12158c5efae7a7988", func := "seismonet/seismonetlaw05.SteimSizes", spec := "steimSizes", inPlace := ["internal/abi.NoEscape", "internal/bytealg.MakeNoZero"], apart := false, narrowed := true }
def SteimSizesUptoSaid : Prop := steimSizesUptoRow.holds Try.pinned (OpenSpec.upto steimSizesSpec)

/-- 'seismonetlaw05.SteimWords', WHERE WHAT IT READS IS OF BULK AT MOST 1048576: true; the input reads as it did. -/
def steimWordsUptoRow : OpenClaim := { program := "ythdahfaejpjkhaa", sum := "856b2c69e609f354275e4859bcba6fe1daf8a8fd353c69a12158c5efae7a7988", func := "seismonet/seismonetlaw05.SteimWords", spec := "steimWords", inPlace := ["internal/abi.NoEscape", "internal/bytealg.MakeNoZero"], apart := false, narrowed := true }
def SteimWordsUptoSaid : Prop := steimWordsUptoRow.holds Try.pinned (OpenSpec.upto steimWordsSpec)

/-- 'seismonetlaw05.SteimDamage', WHERE WHAT IT READS IS OF BULK AT MOST 1048576: true; the input reads as it did. -/
def steimDamageUptoRow : OpenClaim := { program := "ythdahfaejpjkhaa", sum := "856b2c69e609f354275e4859bcba6fe1daf8a8fd353c69a12158c5efae7a7988", func := "seismonet/seismonetlaw05.SteimDamage", spec := "steimDamage", inPlace := ["internal/abi.NoEscape", "internal/bytealg.MakeNoZero"], apart := false, narrowed := true }
def SteimDamageUptoSaid : Prop := steimDamageUptoRow.holds Try.pinned (OpenSpec.upto steimDamageSpec)

end Rows
end Go.Proofs.Ythdahfaejpjkhaa
