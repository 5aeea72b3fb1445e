/-
  No cell of these rows narrows 'for every input' (looked for: loops, veiled, ifaces, maps, wideKeys, modest, calm, conditions, laid).
  DERIVED. THE GIVEN ROWS OF THIS SEAT. 12 by the template 'for every input the law returns true; each argument reads behind the call as it read before'; 0 by the template 'total and deterministic' (their statements: YtmkcheiidhppbaaTotals.lean).
  GIVEN WITH THE SEED: the statements are not yours to turn. If you find one false, say at which input.
  Laid BY PROGRAM, IN A SANDBOX (cutbox-rows.mjs): the forced cells as the released guide's own fill.sh prints them over the translation 4c2e8772ed2ef491… (all of the seat's roots in one cut). By AI agents, Wed Nov 11 2026. No macro, syntax, notation, axiom, sorry.
-/
import Derived.Test.YtmkcheiidhppbaaChecked
import GoSem.Claim
import GoSem.ClaimJoined
import GoSem.ClaimMapViews
import Derived.JoinedTies
import Derived.KernelRfl
namespace Go.Proofs.Ytmkcheiidhppbaa
/- THE CELL 'sum', in the pinned program and in every row, IS THE sha256 OF THE DUMP (.gsa) THAT YtmkcheiidhppbaaProg.lean LOADS. Nothing in Lean hashes anything: it is a label: what it is worth is what the hold of that sum in a sandbox is worth. -/
noncomputable def Try.pinned : Pinned := { name := "ytmkcheiidhppbaa", sum := "4c2e8772ed2ef4912e18c7d63c68a6091fcb22c5df38d948ddbe674d9e860949", checked := Try.checked }
namespace Rows
def none {H : Type} : Left H := { results := [], args := [] }

/-- 'seismonetlaw01.UtcExact': WHATEVER THE INPUT: true; the input reads as it did. -/
def utcExactSpec : ChangeSpec := { name := "utcExact", fn := fun _ => fun
  | [d1, d2, d3, d4, d5] => { results := [.lit (.bool true)], args := [d1, d2, d3, d4, d5] }
  | _ => none }
def utcExactRow : OpenClaim := { program := "ytmkcheiidhppbaa", sum := "4c2e8772ed2ef4912e18c7d63c68a6091fcb22c5df38d948ddbe674d9e860949", func := "seismonet/seismonetlaw01.UtcExact", spec := "utcExact", unfollowed := true, recurses := true, apart := false }
def UtcExactSaid : Prop := utcExactRow.holds Try.pinned (OpenSpec.ofChange utcExactSpec)

/-- ITS FALSE NEIGHBOUR: 'it returns false'. Refute it at one input. -/
def utcExactWrong : ChangeSpec := { name := "utcExact", fn := fun _ => fun
  | [d1, d2, d3, d4, d5] => { results := [.lit (.bool false)], args := [d1, d2, d3, d4, d5] }
  | _ => none }
def UtcExactWrongFalsely : Prop := utcExactRow.holds Try.pinned (OpenSpec.ofChange utcExactWrong)

/-- 'seismonetlaw01.UtcDates': WHATEVER THE INPUT: true; the input reads as it did. -/
def utcDatesSpec : ChangeSpec := { name := "utcDates", fn := fun _ => fun
  | [d1, d2, d3, d4] => { results := [.lit (.bool true)], args := [d1, d2, d3, d4] }
  | _ => none }
def utcDatesRow : OpenClaim := { program := "ytmkcheiidhppbaa", sum := "4c2e8772ed2ef4912e18c7d63c68a6091fcb22c5df38d948ddbe674d9e860949", func := "seismonet/seismonetlaw01.UtcDates", spec := "utcDates", unfollowed := true, recurses := true, apart := false }
def UtcDatesSaid : Prop := utcDatesRow.holds Try.pinned (OpenSpec.ofChange utcDatesSpec)

/-- ITS FALSE NEIGHBOUR: 'it returns false'. Refute it at one input. -/
def utcDatesWrong : ChangeSpec := { name := "utcDates", fn := fun _ => fun
  | [d1, d2, d3, d4] => { results := [.lit (.bool false)], args := [d1, d2, d3, d4] }
  | _ => none }
def UtcDatesWrongFalsely : Prop := utcDatesRow.holds Try.pinned (OpenSpec.ofChange utcDatesWrong)

/-- 'seismonetlaw01.UtcBack': WHATEVER THE INPUT: true; the input reads as it did. -/
def utcBackSpec : ChangeSpec := { name := "utcBack", fn := fun _ => fun
  | [d1, d2] => { results := [.lit (.bool true)], args := [d1, d2] }
  | _ => none }
def utcBackRow : OpenClaim := { program := "ytmkcheiidhppbaa", sum := "4c2e8772ed2ef4912e18c7d63c68a6091fcb22c5df38d948ddbe674d9e860949", func := "seismonet/seismonetlaw01.UtcBack", spec := "utcBack", unfollowed := true, recurses := true, apart := false }
def UtcBackSaid : Prop := utcBackRow.holds Try.pinned (OpenSpec.ofChange utcBackSpec)

/-- ITS FALSE NEIGHBOUR: 'it returns false'. Refute it at one input. -/
def utcBackWrong : ChangeSpec := { name := "utcBack", fn := fun _ => fun
  | [d1, d2] => { results := [.lit (.bool false)], args := [d1, d2] }
  | _ => none }
def UtcBackWrongFalsely : Prop := utcBackRow.holds Try.pinned (OpenSpec.ofChange utcBackWrong)

/-- 'seismonetlaw01.UtcAscends': WHATEVER THE INPUT: true; the input reads as it did. -/
def utcAscendsSpec : ChangeSpec := { name := "utcAscends", fn := fun _ => fun
  | [d1, d2, d3] => { results := [.lit (.bool true)], args := [d1, d2, d3] }
  | _ => none }
def utcAscendsRow : OpenClaim := { program := "ytmkcheiidhppbaa", sum := "4c2e8772ed2ef4912e18c7d63c68a6091fcb22c5df38d948ddbe674d9e860949", func := "seismonet/seismonetlaw01.UtcAscends", spec := "utcAscends", unfollowed := true, recurses := true, apart := false }
def UtcAscendsSaid : Prop := utcAscendsRow.holds Try.pinned (OpenSpec.ofChange utcAscendsSpec)

/-- ITS FALSE NEIGHBOUR: 'it returns false'. Refute it at one input. -/
def utcAscendsWrong : ChangeSpec := { name := "utcAscends", fn := fun _ => fun
  | [d1, d2, d3] => { results := [.lit (.bool false)], args := [d1, d2, d3] }
  | _ => none }
def UtcAscendsWrongFalsely : Prop := utcAscendsRow.holds Try.pinned (OpenSpec.ofChange utcAscendsWrong)

/-- 'seismonetlaw01.UtcTables': WHATEVER THE INPUT: true; the input reads as it did. -/
def utcTablesSpec : ChangeSpec := { name := "utcTables", fn := fun _ => fun
  | [d1, d2] => { results := [.lit (.bool true)], args := [d1, d2] }
  | _ => none }
def utcTablesRow : OpenClaim := { program := "ytmkcheiidhppbaa", sum := "4c2e8772ed2ef4912e18c7d63c68a6091fcb22c5df38d948ddbe674d9e860949", func := "seismonet/seismonetlaw01.UtcTables", spec := "utcTables", unfollowed := true, recurses := true, apart := false }
def UtcTablesSaid : Prop := utcTablesRow.holds Try.pinned (OpenSpec.ofChange utcTablesSpec)

/-- ITS FALSE NEIGHBOUR: 'it returns false'. Refute it at one input. -/
def utcTablesWrong : ChangeSpec := { name := "utcTables", fn := fun _ => fun
  | [d1, d2] => { results := [.lit (.bool false)], args := [d1, d2] }
  | _ => none }
def UtcTablesWrongFalsely : Prop := utcTablesRow.holds Try.pinned (OpenSpec.ofChange utcTablesWrong)

/-- 'seismonetlaw02.RateExact': WHATEVER THE INPUT: true; the input reads as it did. -/
def rateExactSpec : ChangeSpec := { name := "rateExact", fn := fun _ => fun
  | [d1, d2, d3, d4, d5, d6] => { results := [.lit (.bool true)], args := [d1, d2, d3, d4, d5, d6] }
  | _ => none }
def rateExactRow : OpenClaim := { program := "ytmkcheiidhppbaa", sum := "4c2e8772ed2ef4912e18c7d63c68a6091fcb22c5df38d948ddbe674d9e860949", func := "seismonet/seismonetlaw02.RateExact", spec := "rateExact", apart := false }
def RateExactSaid : Prop := rateExactRow.holds Try.pinned (OpenSpec.ofChange rateExactSpec)

/-- ITS FALSE NEIGHBOUR: 'it returns false'. Refute it at one input. -/
def rateExactWrong : ChangeSpec := { name := "rateExact", fn := fun _ => fun
  | [d1, d2, d3, d4, d5, d6] => { results := [.lit (.bool false)], args := [d1, d2, d3, d4, d5, d6] }
  | _ => none }
def RateExactWrongFalsely : Prop := rateExactRow.holds Try.pinned (OpenSpec.ofChange rateExactWrong)

/-- 'seismonetlaw02.RateAscends': WHATEVER THE INPUT: true; the input reads as it did. -/
def rateAscendsSpec : ChangeSpec := { name := "rateAscends", fn := fun _ => fun
  | [d1, d2, d3] => { results := [.lit (.bool true)], args := [d1, d2, d3] }
  | _ => none }
def rateAscendsRow : OpenClaim := { program := "ytmkcheiidhppbaa", sum := "4c2e8772ed2ef4912e18c7d63c68a6091fcb22c5df38d948ddbe674d9e860949", func := "seismonet/seismonetlaw02.RateAscends", spec := "rateAscends", apart := false }
def RateAscendsSaid : Prop := rateAscendsRow.holds Try.pinned (OpenSpec.ofChange rateAscendsSpec)

/-- ITS FALSE NEIGHBOUR: 'it returns false'. Refute it at one input. -/
def rateAscendsWrong : ChangeSpec := { name := "rateAscends", fn := fun _ => fun
  | [d1, d2, d3] => { results := [.lit (.bool false)], args := [d1, d2, d3] }
  | _ => none }
def RateAscendsWrongFalsely : Prop := rateAscendsRow.holds Try.pinned (OpenSpec.ofChange rateAscendsWrong)

/-- 'seismonetlaw02.RateNearest': WHATEVER THE INPUT: true; the input reads as it did. -/
def rateNearestSpec : ChangeSpec := { name := "rateNearest", fn := fun _ => fun
  | [d1, d2, d3] => { results := [.lit (.bool true)], args := [d1, d2, d3] }
  | _ => none }
def rateNearestRow : OpenClaim := { program := "ytmkcheiidhppbaa", sum := "4c2e8772ed2ef4912e18c7d63c68a6091fcb22c5df38d948ddbe674d9e860949", func := "seismonet/seismonetlaw02.RateNearest", spec := "rateNearest", apart := false }
def RateNearestSaid : Prop := rateNearestRow.holds Try.pinned (OpenSpec.ofChange rateNearestSpec)

/-- ITS FALSE NEIGHBOUR: 'it returns false'. Refute it at one input. -/
def rateNearestWrong : ChangeSpec := { name := "rateNearest", fn := fun _ => fun
  | [d1, d2, d3] => { results := [.lit (.bool false)], args := [d1, d2, d3] }
  | _ => none }
def RateNearestWrongFalsely : Prop := rateNearestRow.holds Try.pinned (OpenSpec.ofChange rateNearestWrong)

/-- 'seismonetlaw02.RateSlower': WHATEVER THE INPUT: true; the input reads as it did. -/
def rateSlowerSpec : ChangeSpec := { name := "rateSlower", fn := fun _ => fun
  | [d1, d2, d3] => { results := [.lit (.bool true)], args := [d1, d2, d3] }
  | _ => none }
def rateSlowerRow : OpenClaim := { program := "ytmkcheiidhppbaa", sum := "4c2e8772ed2ef4912e18c7d63c68a6091fcb22c5df38d948ddbe674d9e860949", func := "seismonet/seismonetlaw02.RateSlower", spec := "rateSlower", apart := false }
def RateSlowerSaid : Prop := rateSlowerRow.holds Try.pinned (OpenSpec.ofChange rateSlowerSpec)

/-- ITS FALSE NEIGHBOUR: 'it returns false'. Refute it at one input. -/
def rateSlowerWrong : ChangeSpec := { name := "rateSlower", fn := fun _ => fun
  | [d1, d2, d3] => { results := [.lit (.bool false)], args := [d1, d2, d3] }
  | _ => none }
def RateSlowerWrongFalsely : Prop := rateSlowerRow.holds Try.pinned (OpenSpec.ofChange rateSlowerWrong)

/-- 'seismonetlaw02.RateNumbers': WHATEVER THE INPUT: true; the input reads as it did. -/
def rateNumbersSpec : ChangeSpec := { name := "rateNumbers", fn := fun _ => fun
  | [d1, d2, d3] => { results := [.lit (.bool true)], args := [d1, d2, d3] }
  | _ => none }
def rateNumbersRow : OpenClaim := { program := "ytmkcheiidhppbaa", sum := "4c2e8772ed2ef4912e18c7d63c68a6091fcb22c5df38d948ddbe674d9e860949", func := "seismonet/seismonetlaw02.RateNumbers", spec := "rateNumbers", apart := false }
def RateNumbersSaid : Prop := rateNumbersRow.holds Try.pinned (OpenSpec.ofChange rateNumbersSpec)

/-- ITS FALSE NEIGHBOUR: 'it returns false'. Refute it at one input. -/
def rateNumbersWrong : ChangeSpec := { name := "rateNumbers", fn := fun _ => fun
  | [d1, d2, d3] => { results := [.lit (.bool false)], args := [d1, d2, d3] }
  | _ => none }
def RateNumbersWrongFalsely : Prop := rateNumbersRow.holds Try.pinned (OpenSpec.ofChange rateNumbersWrong)

/-- 'seismonetlaw04.BitsExact': WHATEVER THE INPUT: true; the input reads as it did. -/
def bitsExactSpec : ChangeSpec := { name := "bitsExact", fn := fun _ => fun
  | [d1, d2, d3, d4, d5, d6, d7] => { results := [.lit (.bool true)], args := [d1, d2, d3, d4, d5, d6, d7] }
  | _ => none }
def bitsExactRow : OpenClaim := { program := "ytmkcheiidhppbaa", sum := "4c2e8772ed2ef4912e18c7d63c68a6091fcb22c5df38d948ddbe674d9e860949", func := "seismonet/seismonetlaw04.BitsExact", spec := "bitsExact", apart := false }
def BitsExactSaid : Prop := bitsExactRow.holds Try.pinned (OpenSpec.ofChange bitsExactSpec)

/-- ITS FALSE NEIGHBOUR: 'it returns false'. Refute it at one input. -/
def bitsExactWrong : ChangeSpec := { name := "bitsExact", fn := fun _ => fun
  | [d1, d2, d3, d4, d5, d6, d7] => { results := [.lit (.bool false)], args := [d1, d2, d3, d4, d5, d6, d7] }
  | _ => none }
def BitsExactWrongFalsely : Prop := bitsExactRow.holds Try.pinned (OpenSpec.ofChange bitsExactWrong)

/-- 'seismonetlaw04.BitsBack': WHATEVER THE INPUT: true; the input reads as it did. -/
def bitsBackSpec : ChangeSpec := { name := "bitsBack", fn := fun _ => fun
  | [d1, d2, d3] => { results := [.lit (.bool true)], args := [d1, d2, d3] }
  | _ => none }
def bitsBackRow : OpenClaim := { program := "ytmkcheiidhppbaa", sum := "4c2e8772ed2ef4912e18c7d63c68a6091fcb22c5df38d948ddbe674d9e860949", func := "seismonet/seismonetlaw04.BitsBack", spec := "bitsBack", apart := false }
def BitsBackSaid : Prop := bitsBackRow.holds Try.pinned (OpenSpec.ofChange bitsBackSpec)

/-- ITS FALSE NEIGHBOUR: 'it returns false'. Refute it at one input. -/
def bitsBackWrong : ChangeSpec := { name := "bitsBack", fn := fun _ => fun
  | [d1, d2, d3] => { results := [.lit (.bool false)], args := [d1, d2, d3] }
  | _ => none }
def BitsBackWrongFalsely : Prop := bitsBackRow.holds Try.pinned (OpenSpec.ofChange bitsBackWrong)

/- THE SECOND FORM. 'bulk': how many values and letters a reading holds, each counted each time it is reached (what is shared counts as often as it is met; a slice's spare places count too). A statement '..UptoSaid' is the law's where the arguments, and the package variables that the reading takes, are together of bulk at most 1048576: NARROWER than '..Said'. Prove '..Said' where nothing that the law and all that it calls make is longer than what came in: it says more and counts as full. Else prove '..UptoSaid'. A law counts once. -/
mutual
def uptoBulk {H : Type} : DataW H → Nat
  | .lit (.string bytes) => bytes.length + 1
  | .lit _ => 1
  | .nil => 1
  | .ptr d => uptoBulk d + 1
  | .slice elems spare => uptoBulkAll elems + uptoBulkAll spare + 1
  | .agg parts => uptoBulkAll parts + 1
  | .iface _ d => uptoBulk d + 1
  | .map entries => uptoBulkEntries entries + 1
  | .held _ => 1
def uptoBulkAll {H : Type} : List (DataW H) → Nat
  | [] => 0
  | d :: r => uptoBulk d + uptoBulkAll r
def uptoBulkEntries {H : Type} : List (Lit × DataW H) → Nat
  | [] => 0
  | x :: r => uptoBulkEntry x + uptoBulkEntries r
def uptoBulkEntry {H : Type} : Lit × DataW H → Nat
  | (.string bytes, d) => bytes.length + uptoBulk d + 1
  | (_, d) => uptoBulk d + 1
 end
def uptoSmall : (H : Type) → List (DataW H) → Bool := fun _ ds => decide (uptoBulkAll ds ≤ 1048576)
def OpenSpec.upto (s : _root_.Go.ChangeSpec) : _root_.Go.OpenSpec := { _root_.Go.OpenSpec.ofChange s with cond := some uptoSmall }

/-- 'seismonetlaw01.UtcExact', WHERE WHAT IT READS IS OF BULK AT MOST 1048576: true; the input reads as it did. -/
def utcExactUptoRow : OpenClaim := { program := "ytmkcheiidhppbaa", sum := "4c2e8772ed2ef4912e18c7d63c68a6091fcb22c5df38d948ddbe674d9e860949", func := "seismonet/seismonetlaw01.UtcExact", spec := "utcExact", unfollowed := true, recurses := true, apart := false, narrowed := true }
def UtcExactUptoSaid : Prop := utcExactUptoRow.holds Try.pinned (OpenSpec.upto utcExactSpec)

/-- 'seismonetlaw01.UtcDates', WHERE WHAT IT READS IS OF BULK AT MOST 1048576: true; the input reads as it did. -/
def utcDatesUptoRow : OpenClaim := { program := "ytmkcheiidhppbaa", sum := "4c2e8772ed2ef4912e18c7d63c68a6091fcb22c5df38d948ddbe674d9e860949", func := "seismonet/seismonetlaw01.UtcDates", spec := "utcDates", unfollowed := true, recurses := true, apart := false, narrowed := true }
def UtcDatesUptoSaid : Prop := utcDatesUptoRow.holds Try.pinned (OpenSpec.upto utcDatesSpec)

/-- 'seismonetlaw01.UtcBack', WHERE WHAT IT READS IS OF BULK AT MOST 1048576: true; the input reads as it did. -/
def utcBackUptoRow : OpenClaim := { program := "ytmkcheiidhppbaa", sum := "4c2e8772ed2ef4912e18c7d63c68a6091fcb22c5df38d948ddbe674d9e860949", func := "seismonet/seismonetlaw01.UtcBack", spec := "utcBack", unfollowed := true, recurses := true, apart := false, narrowed := true }
def UtcBackUptoSaid : Prop := utcBackUptoRow.holds Try.pinned (OpenSpec.upto utcBackSpec)

/-- 'seismonetlaw01.UtcAscends', WHERE WHAT IT READS IS OF BULK AT MOST 1048576: true; the input reads as it did. -/
def utcAscendsUptoRow : OpenClaim := { program := "ytmkcheiidhppbaa", sum := "4c2e8772ed2ef4912e18c7d63c68a6091fcb22c5df38d948ddbe674d9e860949", func := "seismonet/seismonetlaw01.UtcAscends", spec := "utcAscends", unfollowed := true, recurses := true, apart := false, narrowed := true }
def UtcAscendsUptoSaid : Prop := utcAscendsUptoRow.holds Try.pinned (OpenSpec.upto utcAscendsSpec)

/-- 'seismonetlaw01.UtcTables', WHERE WHAT IT READS IS OF BULK AT MOST 1048576: true; the input reads as it did. -/
def utcTablesUptoRow : OpenClaim := { program := "ytmkcheiidhppbaa", sum := "4c2e8772ed2ef4912e18c7d63c68a6091fcb22c5df38d948ddbe674d9e860949", func := "seismonet/seismonetlaw01.UtcTables", spec := "utcTables", unfollowed := true, recurses := true, apart := false, narrowed := true }
def UtcTablesUptoSaid : Prop := utcTablesUptoRow.holds Try.pinned (OpenSpec.upto utcTablesSpec)

/-- 'seismonetlaw02.RateExact', WHERE WHAT IT READS IS OF BULK AT MOST 1048576: true; the input reads as it did. -/
def rateExactUptoRow : OpenClaim := { program := "ytmkcheiidhppbaa", sum := "4c2e8772ed2ef4912e18c7d63c68a6091fcb22c5df38d948ddbe674d9e860949", func := "seismonet/seismonetlaw02.RateExact", spec := "rateExact", apart := false, narrowed := true }
def RateExactUptoSaid : Prop := rateExactUptoRow.holds Try.pinned (OpenSpec.upto rateExactSpec)

/-- 'seismonetlaw02.RateAscends', WHERE WHAT IT READS IS OF BULK AT MOST 1048576: true; the input reads as it did. -/
def rateAscendsUptoRow : OpenClaim := { program := "ytmkcheiidhppbaa", sum := "4c2e8772ed2ef4912e18c7d63c68a6091fcb22c5df38d948ddbe674d9e860949", func := "seismonet/seismonetlaw02.RateAscends", spec := "rateAscends", apart := false, narrowed := true }
def RateAscendsUptoSaid : Prop := rateAscendsUptoRow.holds Try.pinned (OpenSpec.upto rateAscendsSpec)

/-- 'seismonetlaw02.RateNearest', WHERE WHAT IT READS IS OF BULK AT MOST 1048576: true; the input reads as it did. -/
def rateNearestUptoRow : OpenClaim := { program := "ytmkcheiidhppbaa", sum := "4c2e8772ed2ef4912e18c7d63c68a6091fcb22c5df38d948ddbe674d9e860949", func := "seismonet/seismonetlaw02.RateNearest", spec := "rateNearest", apart := false, narrowed := true }
def RateNearestUptoSaid : Prop := rateNearestUptoRow.holds Try.pinned (OpenSpec.upto rateNearestSpec)

/-- 'seismonetlaw02.RateSlower', WHERE WHAT IT READS IS OF BULK AT MOST 1048576: true; the input reads as it did. -/
def rateSlowerUptoRow : OpenClaim := { program := "ytmkcheiidhppbaa", sum := "4c2e8772ed2ef4912e18c7d63c68a6091fcb22c5df38d948ddbe674d9e860949", func := "seismonet/seismonetlaw02.RateSlower", spec := "rateSlower", apart := false, narrowed := true }
def RateSlowerUptoSaid : Prop := rateSlowerUptoRow.holds Try.pinned (OpenSpec.upto rateSlowerSpec)

/-- 'seismonetlaw02.RateNumbers', WHERE WHAT IT READS IS OF BULK AT MOST 1048576: true; the input reads as it did. -/
def rateNumbersUptoRow : OpenClaim := { program := "ytmkcheiidhppbaa", sum := "4c2e8772ed2ef4912e18c7d63c68a6091fcb22c5df38d948ddbe674d9e860949", func := "seismonet/seismonetlaw02.RateNumbers", spec := "rateNumbers", apart := false, narrowed := true }
def RateNumbersUptoSaid : Prop := rateNumbersUptoRow.holds Try.pinned (OpenSpec.upto rateNumbersSpec)

/-- 'seismonetlaw04.BitsExact', WHERE WHAT IT READS IS OF BULK AT MOST 1048576: true; the input reads as it did. -/
def bitsExactUptoRow : OpenClaim := { program := "ytmkcheiidhppbaa", sum := "4c2e8772ed2ef4912e18c7d63c68a6091fcb22c5df38d948ddbe674d9e860949", func := "seismonet/seismonetlaw04.BitsExact", spec := "bitsExact", apart := false, narrowed := true }
def BitsExactUptoSaid : Prop := bitsExactUptoRow.holds Try.pinned (OpenSpec.upto bitsExactSpec)

/-- 'seismonetlaw04.BitsBack', WHERE WHAT IT READS IS OF BULK AT MOST 1048576: true; the input reads as it did. -/
def bitsBackUptoRow : OpenClaim := { program := "ytmkcheiidhppbaa", sum := "4c2e8772ed2ef4912e18c7d63c68a6091fcb22c5df38d948ddbe674d9e860949", func := "seismonet/seismonetlaw04.BitsBack", spec := "bitsBack", apart := false, narrowed := true }
def BitsBackUptoSaid : Prop := bitsBackUptoRow.holds Try.pinned (OpenSpec.upto bitsBackSpec)

end Rows
end Go.Proofs.Ytmkcheiidhppbaa
