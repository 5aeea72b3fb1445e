/-
  No cell of these rows narrows 'for every input' (looked for: loops, veiled, ifaces, maps, wideKeys, modest, calm, conditions, laid).
  DERIVED. THE GIVEN ROWS OF THIS SEAT. 11 by the template 'for every input the law returns true; each argument reads behind the call as it read before'; 0 by the template 'total and deterministic' (their statements: YtodjblalonkldaaTotals.lean).
  GIVEN WITH THE SEED: the statements are not yours to turn. If you find one false, say at which input.
  Laid BY PROGRAM, IN A SANDBOX (cutbox-rows.mjs): the forced cells as the released guide's own fill.sh prints them over the translation d7cd848e13f333f1… (all of the seat's roots in one cut). By AI agents, Wed Nov 11 2026. No macro, syntax, notation, axiom, sorry.
-/
import Derived.Test.YtodjblalonkldaaChecked
import GoSem.Claim
import GoSem.ClaimJoined
import GoSem.ClaimMapViews
import Derived.JoinedTies
import Derived.KernelRfl
namespace Go.Proofs.Ytodjblalonkldaa
/- THE CELL 'sum', in the pinned program and in every row, IS THE sha256 OF THE DUMP (.gsa) THAT YtodjblalonkldaaProg.lean LOADS. Nothing in Lean hashes anything: it is a label: what it is worth is what the hold of that sum in a sandbox is worth. -/
noncomputable def Try.pinned : Pinned := { name := "ytodjblalonkldaa", sum := "d7cd848e13f333f17fb107e776d749a005d8345d7794682698b78523ee72e160", checked := Try.checked }
namespace Rows
def none {H : Type} : Left H := { results := [], args := [] }

/-- 'seismonetlaw01.UtcExact': WHATEVER THE INPUT: true; the input reads as it did. -/
def utcExactSpec : ChangeSpec := { name := "utcExact", fn := fun _ => fun
  | [d1, d2, d3, d4, d5] => { results := [.lit (.bool true)], args := [d1, d2, d3, d4, d5] }
  | _ => none }
def utcExactRow : OpenClaim := { program := "ytodjblalonkldaa", sum := "d7cd848e13f333f17fb107e776d749a005d8345d7794682698b78523ee72e160", func := "seismonet/seismonetlaw01.UtcExact", spec := "utcExact", unfollowed := true, recurses := true, apart := false }
def UtcExactSaid : Prop := utcExactRow.holds Try.pinned (OpenSpec.ofChange utcExactSpec)

/-- ITS FALSE NEIGHBOUR: 'it returns false'. Refute it at one input. -/
def utcExactWrong : ChangeSpec := { name := "utcExact", fn := fun _ => fun
  | [d1, d2, d3, d4, d5] => { results := [.lit (.bool false)], args := [d1, d2, d3, d4, d5] }
  | _ => none }
def UtcExactWrongFalsely : Prop := utcExactRow.holds Try.pinned (OpenSpec.ofChange utcExactWrong)

/-- 'seismonetlaw01.UtcDates': WHATEVER THE INPUT: true; the input reads as it did. -/
def utcDatesSpec : ChangeSpec := { name := "utcDates", fn := fun _ => fun
  | [d1, d2, d3, d4] => { results := [.lit (.bool true)], args := [d1, d2, d3, d4] }
  | _ => none }
def utcDatesRow : OpenClaim := { program := "ytodjblalonkldaa", sum := "d7cd848e13f333f17fb107e776d749a005d8345d7794682698b78523ee72e160", func := "seismonet/seismonetlaw01.UtcDates", spec := "utcDates", unfollowed := true, recurses := true, apart := false }
def UtcDatesSaid : Prop := utcDatesRow.holds Try.pinned (OpenSpec.ofChange utcDatesSpec)

/-- ITS FALSE NEIGHBOUR: 'it returns false'. Refute it at one input. -/
def utcDatesWrong : ChangeSpec := { name := "utcDates", fn := fun _ => fun
  | [d1, d2, d3, d4] => { results := [.lit (.bool false)], args := [d1, d2, d3, d4] }
  | _ => none }
def UtcDatesWrongFalsely : Prop := utcDatesRow.holds Try.pinned (OpenSpec.ofChange utcDatesWrong)

/-- 'seismonetlaw01.UtcBack': WHATEVER THE INPUT: true; the input reads as it did. -/
def utcBackSpec : ChangeSpec := { name := "utcBack", fn := fun _ => fun
  | [d1, d2] => { results := [.lit (.bool true)], args := [d1, d2] }
  | _ => none }
def utcBackRow : OpenClaim := { program := "ytodjblalonkldaa", sum := "d7cd848e13f333f17fb107e776d749a005d8345d7794682698b78523ee72e160", func := "seismonet/seismonetlaw01.UtcBack", spec := "utcBack", unfollowed := true, recurses := true, apart := false }
def UtcBackSaid : Prop := utcBackRow.holds Try.pinned (OpenSpec.ofChange utcBackSpec)

/-- ITS FALSE NEIGHBOUR: 'it returns false'. Refute it at one input. -/
def utcBackWrong : ChangeSpec := { name := "utcBack", fn := fun _ => fun
  | [d1, d2] => { results := [.lit (.bool false)], args := [d1, d2] }
  | _ => none }
def UtcBackWrongFalsely : Prop := utcBackRow.holds Try.pinned (OpenSpec.ofChange utcBackWrong)

/-- 'seismonetlaw01.UtcAscends': WHATEVER THE INPUT: true; the input reads as it did. -/
def utcAscendsSpec : ChangeSpec := { name := "utcAscends", fn := fun _ => fun
  | [d1, d2, d3] => { results := [.lit (.bool true)], args := [d1, d2, d3] }
  | _ => none }
def utcAscendsRow : OpenClaim := { program := "ytodjblalonkldaa", sum := "d7cd848e13f333f17fb107e776d749a005d8345d7794682698b78523ee72e160", func := "seismonet/seismonetlaw01.UtcAscends", spec := "utcAscends", unfollowed := true, recurses := true, apart := false }
def UtcAscendsSaid : Prop := utcAscendsRow.holds Try.pinned (OpenSpec.ofChange utcAscendsSpec)

/-- ITS FALSE NEIGHBOUR: 'it returns false'. Refute it at one input. -/
def utcAscendsWrong : ChangeSpec := { name := "utcAscends", fn := fun _ => fun
  | [d1, d2, d3] => { results := [.lit (.bool false)], args := [d1, d2, d3] }
  | _ => none }
def UtcAscendsWrongFalsely : Prop := utcAscendsRow.holds Try.pinned (OpenSpec.ofChange utcAscendsWrong)

/-- 'seismonetlaw01.UtcTables': WHATEVER THE INPUT: true; the input reads as it did. -/
def utcTablesSpec : ChangeSpec := { name := "utcTables", fn := fun _ => fun
  | [d1, d2] => { results := [.lit (.bool true)], args := [d1, d2] }
  | _ => none }
def utcTablesRow : OpenClaim := { program := "ytodjblalonkldaa", sum := "d7cd848e13f333f17fb107e776d749a005d8345d7794682698b78523ee72e160", func := "seismonet/seismonetlaw01.UtcTables", spec := "utcTables", unfollowed := true, recurses := true, apart := false }
def UtcTablesSaid : Prop := utcTablesRow.holds Try.pinned (OpenSpec.ofChange utcTablesSpec)

/-- ITS FALSE NEIGHBOUR: 'it returns false'. Refute it at one input. -/
def utcTablesWrong : ChangeSpec := { name := "utcTables", fn := fun _ => fun
  | [d1, d2] => { results := [.lit (.bool false)], args := [d1, d2] }
  | _ => none }
def UtcTablesWrongFalsely : Prop := utcTablesRow.holds Try.pinned (OpenSpec.ofChange utcTablesWrong)

/-- 'seismonetlaw02.RateExact': WHATEVER THE INPUT: true; the input reads as it did. -/
def rateExactSpec : ChangeSpec := { name := "rateExact", fn := fun _ => fun
  | [d1, d2, d3, d4, d5, d6] => { results := [.lit (.bool true)], args := [d1, d2, d3, d4, d5, d6] }
  | _ => none }
def rateExactRow : OpenClaim := { program := "ytodjblalonkldaa", sum := "d7cd848e13f333f17fb107e776d749a005d8345d7794682698b78523ee72e160", func := "seismonet/seismonetlaw02.RateExact", spec := "rateExact", apart := false }
def RateExactSaid : Prop := rateExactRow.holds Try.pinned (OpenSpec.ofChange rateExactSpec)

/-- ITS FALSE NEIGHBOUR: 'it returns false'. Refute it at one input. -/
def rateExactWrong : ChangeSpec := { name := "rateExact", fn := fun _ => fun
  | [d1, d2, d3, d4, d5, d6] => { results := [.lit (.bool false)], args := [d1, d2, d3, d4, d5, d6] }
  | _ => none }
def RateExactWrongFalsely : Prop := rateExactRow.holds Try.pinned (OpenSpec.ofChange rateExactWrong)

/-- 'seismonetlaw02.RateNearest': WHATEVER THE INPUT: true; the input reads as it did. -/
def rateNearestSpec : ChangeSpec := { name := "rateNearest", fn := fun _ => fun
  | [d1, d2, d3] => { results := [.lit (.bool true)], args := [d1, d2, d3] }
  | _ => none }
def rateNearestRow : OpenClaim := { program := "ytodjblalonkldaa", sum := "d7cd848e13f333f17fb107e776d749a005d8345d7794682698b78523ee72e160", func := "seismonet/seismonetlaw02.RateNearest", spec := "rateNearest", apart := false }
def RateNearestSaid : Prop := rateNearestRow.holds Try.pinned (OpenSpec.ofChange rateNearestSpec)

/-- ITS FALSE NEIGHBOUR: 'it returns false'. Refute it at one input. -/
def rateNearestWrong : ChangeSpec := { name := "rateNearest", fn := fun _ => fun
  | [d1, d2, d3] => { results := [.lit (.bool false)], args := [d1, d2, d3] }
  | _ => none }
def RateNearestWrongFalsely : Prop := rateNearestRow.holds Try.pinned (OpenSpec.ofChange rateNearestWrong)

/-- 'seismonetlaw02.RateSlower': WHATEVER THE INPUT: true; the input reads as it did. -/
def rateSlowerSpec : ChangeSpec := { name := "rateSlower", fn := fun _ => fun
  | [d1, d2, d3] => { results := [.lit (.bool true)], args := [d1, d2, d3] }
  | _ => none }
def rateSlowerRow : OpenClaim := { program := "ytodjblalonkldaa", sum := "d7cd848e13f333f17fb107e776d749a005d8345d7794682698b78523ee72e160", func := "seismonet/seismonetlaw02.RateSlower", spec := "rateSlower", apart := false }
def RateSlowerSaid : Prop := rateSlowerRow.holds Try.pinned (OpenSpec.ofChange rateSlowerSpec)

/-- ITS FALSE NEIGHBOUR: 'it returns false'. Refute it at one input. -/
def rateSlowerWrong : ChangeSpec := { name := "rateSlower", fn := fun _ => fun
  | [d1, d2, d3] => { results := [.lit (.bool false)], args := [d1, d2, d3] }
  | _ => none }
def RateSlowerWrongFalsely : Prop := rateSlowerRow.holds Try.pinned (OpenSpec.ofChange rateSlowerWrong)

/-- 'seismonetlaw02.RateNumbers': WHATEVER THE INPUT: true; the input reads as it did. -/
def rateNumbersSpec : ChangeSpec := { name := "rateNumbers", fn := fun _ => fun
  | [d1, d2, d3] => { results := [.lit (.bool true)], args := [d1, d2, d3] }
  | _ => none }
def rateNumbersRow : OpenClaim := { program := "ytodjblalonkldaa", sum := "d7cd848e13f333f17fb107e776d749a005d8345d7794682698b78523ee72e160", func := "seismonet/seismonetlaw02.RateNumbers", spec := "rateNumbers", apart := false }
def RateNumbersSaid : Prop := rateNumbersRow.holds Try.pinned (OpenSpec.ofChange rateNumbersSpec)

/-- ITS FALSE NEIGHBOUR: 'it returns false'. Refute it at one input. -/
def rateNumbersWrong : ChangeSpec := { name := "rateNumbers", fn := fun _ => fun
  | [d1, d2, d3] => { results := [.lit (.bool false)], args := [d1, d2, d3] }
  | _ => none }
def RateNumbersWrongFalsely : Prop := rateNumbersRow.holds Try.pinned (OpenSpec.ofChange rateNumbersWrong)

/-- 'seismonetlaw13.ClockWidens': WHATEVER THE INPUT: true; the input reads as it did. -/
def clockWidensSpec : ChangeSpec := { name := "clockWidens", fn := fun _ => fun
  | [d1, d2, d3, d4] => { results := [.lit (.bool true)], args := [d1, d2, d3, d4] }
  | _ => none }
def clockWidensRow : OpenClaim := { program := "ytodjblalonkldaa", sum := "d7cd848e13f333f17fb107e776d749a005d8345d7794682698b78523ee72e160", func := "seismonet/seismonetlaw13.ClockWidens", spec := "clockWidens", apart := false }
def ClockWidensSaid : Prop := clockWidensRow.holds Try.pinned (OpenSpec.ofChange clockWidensSpec)

/-- ITS FALSE NEIGHBOUR: 'it returns false'. Refute it at one input. -/
def clockWidensWrong : ChangeSpec := { name := "clockWidens", fn := fun _ => fun
  | [d1, d2, d3, d4] => { results := [.lit (.bool false)], args := [d1, d2, d3, d4] }
  | _ => none }
def ClockWidensWrongFalsely : Prop := clockWidensRow.holds Try.pinned (OpenSpec.ofChange clockWidensWrong)

/-- 'seismonetlaw05.SteimWords': WHATEVER THE INPUT: true; the input reads as it did. -/
def steimWordsSpec : ChangeSpec := { name := "steimWords", fn := fun _ => fun
  | [d1, d2, d3] => { results := [.lit (.bool true)], args := [d1, d2, d3] }
  | _ => none }
def steimWordsRow : OpenClaim := { program := "ytodjblalonkldaa", sum := "d7cd848e13f333f17fb107e776d749a005d8345d7794682698b78523ee72e160", func := "seismonet/seismonetlaw05.SteimWords", spec := "steimWords", inPlace := ["internal/abi.NoEscape", "internal/bytealg.MakeNoZero"], apart := false }
def SteimWordsSaid : Prop := steimWordsRow.holds Try.pinned (OpenSpec.ofChange steimWordsSpec)

/-- ITS FALSE NEIGHBOUR: 'it returns false'. Refute it at one input. -/
def steimWordsWrong : ChangeSpec := { name := "steimWords", fn := fun _ => fun
  | [d1, d2, d3] => { results := [.lit (.bool false)], args := [d1, d2, d3] }
  | _ => none }
def SteimWordsWrongFalsely : Prop := steimWordsRow.holds Try.pinned (OpenSpec.ofChange steimWordsWrong)

/- THE SECOND FORM. 'bulk': how many values and letters a reading holds, each counted each time it is reached (what is shared counts as often as it is met; a slice's spare places count too). A statement '..UptoSaid' is the law's where the arguments, and the package variables that the reading takes, are together of bulk at most 1048576: NARROWER than '..Said'. Prove '..Said' where nothing that the law and all that it calls make is longer than what came in: it says more and counts as full. Else prove '..UptoSaid'. A law counts once. -/
mutual
def uptoBulk {H : Type} : DataW H → Nat
  | .lit (.string bytes) => bytes.length + 1
  | .lit _ => 1
  | .nil => 1
  | .ptr d => uptoBulk d + 1
  | .slice elems spare => uptoBulkAll elems + uptoBulkAll spare + 1
  | .agg parts => uptoBulkAll parts + 1
  | .iface _ d => uptoBulk d + 1
  | .map entries => uptoBulkEntries entries + 1
  | .held _ => 1
def uptoBulkAll {H : Type} : List (DataW H) → Nat
  | [] => 0
  | d :: r => uptoBulk d + uptoBulkAll r
def uptoBulkEntries {H : Type} : List (Lit × DataW H) → Nat
  | [] => 0
  | x :: r => uptoBulkEntry x + uptoBulkEntries r
def uptoBulkEntry {H : Type} : Lit × DataW H → Nat
  | (.string bytes, d) => bytes.length + uptoBulk d + 1
  | (_, d) => uptoBulk d + 1
 end
def uptoSmall : (H : Type) → List (DataW H) → Bool := fun _ ds => decide (uptoBulkAll ds ≤ 1048576)
def OpenSpec.upto (s : _root_.Go.ChangeSpec) : _root_.Go.OpenSpec := { _root_.Go.OpenSpec.ofChange s with cond := some uptoSmall }

/-- 'seismonetlaw01.UtcExact', WHERE WHAT IT READS IS OF BULK AT MOST 1048576: true; the input reads as it did. -/
def utcExactUptoRow : OpenClaim := { program := "ytodjblalonkldaa", sum := "d7cd848e13f333f17fb107e776d749a005d8345d7794682698b78523ee72e160", func := "seismonet/seismonetlaw01.UtcExact", spec := "utcExact", unfollowed := true, recurses := true, apart := false, narrowed := true }
def UtcExactUptoSaid : Prop := utcExactUptoRow.holds Try.pinned (OpenSpec.upto utcExactSpec)

/-- 'seismonetlaw01.UtcDates', WHERE WHAT IT READS IS OF BULK AT MOST 1048576: true; the input reads as it did. -/
def utcDatesUptoRow : OpenClaim := { program := "ytodjblalonkldaa", sum := "d7cd848e13f333f17fb107e776d749a005d8345d7794682698b78523ee72e160", func := "seismonet/seismonetlaw01.UtcDates", spec := "utcDates", unfollowed := true, recurses := true, apart := false, narrowed := true }
def UtcDatesUptoSaid : Prop := utcDatesUptoRow.holds Try.pinned (OpenSpec.upto utcDatesSpec)

/-- 'seismonetlaw01.UtcBack', WHERE WHAT IT READS IS OF BULK AT MOST 1048576: true; the input reads as it did. -/
def utcBackUptoRow : OpenClaim := { program := "ytodjblalonkldaa", sum := "d7cd848e13f333f17fb107e776d749a005d8345d7794682698b78523ee72e160", func := "seismonet/seismonetlaw01.UtcBack", spec := "utcBack", unfollowed := true, recurses := true, apart := false, narrowed := true }
def UtcBackUptoSaid : Prop := utcBackUptoRow.holds Try.pinned (OpenSpec.upto utcBackSpec)

/-- 'seismonetlaw01.UtcAscends', WHERE WHAT IT READS IS OF BULK AT MOST 1048576: true; the input reads as it did. -/
def utcAscendsUptoRow : OpenClaim := { program := "ytodjblalonkldaa", sum := "d7cd848e13f333f17fb107e776d749a005d8345d7794682698b78523ee72e160", func := "seismonet/seismonetlaw01.UtcAscends", spec := "utcAscends", unfollowed := true, recurses := true, apart := false, narrowed := true }
def UtcAscendsUptoSaid : Prop := utcAscendsUptoRow.holds Try.pinned (OpenSpec.upto utcAscendsSpec)

/-- 'seismonetlaw01.UtcTables', WHERE WHAT IT READS IS OF BULK AT MOST 1048576: true; the input reads as it did. -/
def utcTablesUptoRow : OpenClaim := { program := "ytodjblalonkldaa", sum := "d7cd848e13f333f17fb107e776d749a005d8345d7794682698b78523ee72e160", func := "seismonet/seismonetlaw01.UtcTables", spec := "utcTables", unfollowed := true, recurses := true, apart := false, narrowed := true }
def UtcTablesUptoSaid : Prop := utcTablesUptoRow.holds Try.pinned (OpenSpec.upto utcTablesSpec)

/-- 'seismonetlaw02.RateExact', WHERE WHAT IT READS IS OF BULK AT MOST 1048576: true; the input reads as it did. -/
def rateExactUptoRow : OpenClaim := { program := "ytodjblalonkldaa", sum := "d7cd848e13f333f17fb107e776d749a005d8345d7794682698b78523ee72e160", func := "seismonet/seismonetlaw02.RateExact", spec := "rateExact", apart := false, narrowed := true }
def RateExactUptoSaid : Prop := rateExactUptoRow.holds Try.pinned (OpenSpec.upto rateExactSpec)

/-- 'seismonetlaw02.RateNearest', WHERE WHAT IT READS IS OF BULK AT MOST 1048576: true; the input reads as it did. -/
def rateNearestUptoRow : OpenClaim := { program := "ytodjblalonkldaa", sum := "d7cd848e13f333f17fb107e776d749a005d8345d7794682698b78523ee72e160", func := "seismonet/seismonetlaw02.RateNearest", spec := "rateNearest", apart := false, narrowed := true }
def RateNearestUptoSaid : Prop := rateNearestUptoRow.holds Try.pinned (OpenSpec.upto rateNearestSpec)

/-- 'seismonetlaw02.RateSlower', WHERE WHAT IT READS IS OF BULK AT MOST 1048576: true; the input reads as it did. -/
def rateSlowerUptoRow : OpenClaim := { program := "ytodjblalonkldaa", sum := "d7cd848e13f333f17fb107e776d749a005d8345d7794682698b78523ee72e160", func := "seismonet/seismonetlaw02.RateSlower", spec := "rateSlower", apart := false, narrowed := true }
def RateSlowerUptoSaid : Prop := rateSlowerUptoRow.holds Try.pinned (OpenSpec.upto rateSlowerSpec)

/-- 'seismonetlaw02.RateNumbers', WHERE WHAT IT READS IS OF BULK AT MOST 1048576: true; the input reads as it did. -/
def rateNumbersUptoRow : OpenClaim := { program := "ytodjblalonkldaa", sum := "d7cd848e13f333f17fb107e776d749a005d8345d7794682698b78523ee72e160", func := "seismonet/seismonetlaw02.RateNumbers", spec := "rateNumbers", apart := false, narrowed := true }
def RateNumbersUptoSaid : Prop := rateNumbersUptoRow.holds Try.pinned (OpenSpec.upto rateNumbersSpec)

/-- 'seismonetlaw13.ClockWidens', WHERE WHAT IT READS IS OF BULK AT MOST 1048576: true; the input reads as it did. -/
def clockWidensUptoRow : OpenClaim := { program := "ytodjblalonkldaa", sum := "d7cd848e13f333f17fb107e776d749a005d8345d7794682698b78523ee72e160", func := "seismonet/seismonetlaw13.ClockWidens", spec := "clockWidens", apart := false, narrowed := true }
def ClockWidensUptoSaid : Prop := clockWidensUptoRow.holds Try.pinned (OpenSpec.upto clockWidensSpec)

/-- 'seismonetlaw05.SteimWords', WHERE WHAT IT READS IS OF BULK AT MOST 1048576: true; the input reads as it did. -/
def steimWordsUptoRow : OpenClaim := { program := "ytodjblalonkldaa", sum := "d7cd848e13f333f17fb107e776d749a005d8345d7794682698b78523ee72e160", func := "seismonet/seismonetlaw05.SteimWords", spec := "steimWords", inPlace := ["internal/abi.NoEscape", "internal/bytealg.MakeNoZero"], apart := false, narrowed := true }
def SteimWordsUptoSaid : Prop := steimWordsUptoRow.holds Try.pinned (OpenSpec.upto steimWordsSpec)

end Rows
end Go.Proofs.Ytodjblalonkldaa
