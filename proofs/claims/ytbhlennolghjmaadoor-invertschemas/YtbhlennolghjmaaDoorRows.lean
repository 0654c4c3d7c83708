/-
  NARROWER THAN 'FOR EVERY INPUT', by the rows' own cells (each row's printed sentence says how): InvertChecks: laid · InvertTurns: laid · InvertBack: laid · InvertSchemas: laid.
  DERIVED. THE GIVEN ROWS OF THIS SEAT. 4 by the template 'for every input the law returns true; each argument reads behind the call as it read before'; 0 by the template 'total and deterministic' (their statements: YtbhlennolghjmaaDoorTotals.lean).
  GIVEN WITH THE SEED: the statements are not yours to turn. If you find one false, say at which input.
  Laid BY PROGRAM, IN A SANDBOX (cutbox-rows.mjs): the forced cells as the released guide's own fill.sh prints them over the translation 57f61318e451a47e… (all of the seat's roots in one cut). By AI agents, Wed Nov 11 2026. No macro, syntax, notation, axiom, sorry.
-/
import Derived.Test.YtbhlennolghjmaaDoorChecked
import GoSem.Claim
import GoSem.ClaimJoined
import GoSem.ClaimMapViews
import Derived.JoinedTies
import Derived.KernelRfl
namespace Go.Proofs.YtbhlennolghjmaaDoor
/- THE CELL 'sum', in the pinned program and in every row, IS THE sha256 OF THE DUMP (.gsa) THAT YtbhlennolghjmaaDoorProg.lean LOADS. Nothing in Lean hashes anything: it is a label: what it is worth is what the hold of that sum in a sandbox is worth. -/
noncomputable def Tryd.pinned : Pinned := { name := "ytbhlennolghjmaadoor", sum := "57f61318e451a47e3f428729694a2a4d236792bb63c10f94a75111ad19b9af20", checked := Tryd.checked }
namespace Rows
def none {H : Type} : Left H := { results := [], args := [] }

/- WHAT THE LISTED PACKAGE-LEVEL VARIABLES READ AS WHEN THE CALL BEGINS. Each datum BY PROGRAM (the guide's laid-datum.mjs) off the statement by which the dump's own 'gosem.cut.vars' lays the variable. In a bare row this is a premise. The card (YtbhlennolghjmaaDoorCards.lean) ties it to the program's text. -/
def laid_groat_class_kindsOf {H : Type} : DataW H := .agg [.lit (.int .i64 0), .lit (.int .i64 1), .lit (.int .i64 2), .lit (.int .i64 3), .lit (.int .i64 7), .lit (.int .i64 15), .lit (.int .i64 15)]
def laid_groat_dialect_acquirer {H : Type} : DataW H := .agg [.agg [.lit (.int .i64 2), .lit (.int .i64 1), .lit (.int .i64 2), .lit (.int .i64 12), .lit (.int .i64 19)], .agg [.lit (.int .i64 3), .lit (.int .i64 1), .lit (.int .i64 1), .lit (.int .i64 6), .lit (.int .i64 6)], .agg [.lit (.int .i64 4), .lit (.int .i64 1), .lit (.int .i64 1), .lit (.int .i64 12), .lit (.int .i64 12)], .agg [.lit (.int .i64 7), .lit (.int .i64 1), .lit (.int .i64 1), .lit (.int .i64 10), .lit (.int .i64 10)], .agg [.lit (.int .i64 11), .lit (.int .i64 1), .lit (.int .i64 1), .lit (.int .i64 6), .lit (.int .i64 6)], .agg [.lit (.int .i64 12), .lit (.int .i64 1), .lit (.int .i64 1), .lit (.int .i64 6), .lit (.int .i64 6)], .agg [.lit (.int .i64 13), .lit (.int .i64 1), .lit (.int .i64 1), .lit (.int .i64 4), .lit (.int .i64 4)], .agg [.lit (.int .i64 14), .lit (.int .i64 1), .lit (.int .i64 1), .lit (.int .i64 4), .lit (.int .i64 4)], .agg [.lit (.int .i64 18), .lit (.int .i64 1), .lit (.int .i64 1), .lit (.int .i64 4), .lit (.int .i64 4)], .agg [.lit (.int .i64 22), .lit (.int .i64 1), .lit (.int .i64 1), .lit (.int .i64 3), .lit (.int .i64 3)], .agg [.lit (.int .i64 23), .lit (.int .i64 1), .lit (.int .i64 1), .lit (.int .i64 3), .lit (.int .i64 3)], .agg [.lit (.int .i64 32), .lit (.int .i64 1), .lit (.int .i64 2), .lit (.int .i64 1), .lit (.int .i64 11)], .agg [.lit (.int .i64 35), .lit (.int .i64 4), .lit (.int .i64 2), .lit (.int .i64 1), .lit (.int .i64 37)], .agg [.lit (.int .i64 37), .lit (.int .i64 3), .lit (.int .i64 1), .lit (.int .i64 12), .lit (.int .i64 12)], .agg [.lit (.int .i64 38), .lit (.int .i64 3), .lit (.int .i64 1), .lit (.int .i64 6), .lit (.int .i64 6)], .agg [.lit (.int .i64 39), .lit (.int .i64 3), .lit (.int .i64 1), .lit (.int .i64 2), .lit (.int .i64 2)], .agg [.lit (.int .i64 41), .lit (.int .i64 4), .lit (.int .i64 1), .lit (.int .i64 8), .lit (.int .i64 8)], .agg [.lit (.int .i64 42), .lit (.int .i64 4), .lit (.int .i64 1), .lit (.int .i64 15), .lit (.int .i64 15)], .agg [.lit (.int .i64 43), .lit (.int .i64 4), .lit (.int .i64 1), .lit (.int .i64 40), .lit (.int .i64 40)], .agg [.lit (.int .i64 48), .lit (.int .i64 4), .lit (.int .i64 3), .lit (.int .i64 1), .lit (.int .i64 999)], .agg [.lit (.int .i64 49), .lit (.int .i64 1), .lit (.int .i64 1), .lit (.int .i64 3), .lit (.int .i64 3)], .agg [.lit (.int .i64 52), .lit (.int .i64 5), .lit (.int .i64 1), .lit (.int .i64 8), .lit (.int .i64 8)], .agg [.lit (.int .i64 55), .lit (.int .i64 6), .lit (.int .i64 3), .lit (.int .i64 1), .lit (.int .i64 255)], .agg [.lit (.int .i64 64), .lit (.int .i64 5), .lit (.int .i64 1), .lit (.int .i64 8), .lit (.int .i64 8)], .agg [.lit (.int .i64 70), .lit (.int .i64 1), .lit (.int .i64 1), .lit (.int .i64 3), .lit (.int .i64 3)], .agg [.lit (.int .i64 90), .lit (.int .i64 1), .lit (.int .i64 1), .lit (.int .i64 42), .lit (.int .i64 42)], .agg [.lit (.int .i64 102), .lit (.int .i64 4), .lit (.int .i64 2), .lit (.int .i64 1), .lit (.int .i64 28)], .agg [.lit (.int .i64 128), .lit (.int .i64 5), .lit (.int .i64 1), .lit (.int .i64 8), .lit (.int .i64 8)]]
def laid_groat_dialect_issuer {H : Type} : DataW H := .agg [.agg [.lit (.int .i64 2), .lit (.int .i64 1), .lit (.int .i64 2), .lit (.int .i64 12), .lit (.int .i64 19)], .agg [.lit (.int .i64 3), .lit (.int .i64 1), .lit (.int .i64 1), .lit (.int .i64 6), .lit (.int .i64 6)], .agg [.lit (.int .i64 4), .lit (.int .i64 1), .lit (.int .i64 1), .lit (.int .i64 12), .lit (.int .i64 12)], .agg [.lit (.int .i64 7), .lit (.int .i64 1), .lit (.int .i64 1), .lit (.int .i64 10), .lit (.int .i64 10)], .agg [.lit (.int .i64 11), .lit (.int .i64 1), .lit (.int .i64 1), .lit (.int .i64 6), .lit (.int .i64 6)], .agg [.lit (.int .i64 12), .lit (.int .i64 1), .lit (.int .i64 1), .lit (.int .i64 12), .lit (.int .i64 12)], .agg [.lit (.int .i64 14), .lit (.int .i64 1), .lit (.int .i64 1), .lit (.int .i64 4), .lit (.int .i64 4)], .agg [.lit (.int .i64 22), .lit (.int .i64 3), .lit (.int .i64 1), .lit (.int .i64 12), .lit (.int .i64 12)], .agg [.lit (.int .i64 23), .lit (.int .i64 1), .lit (.int .i64 1), .lit (.int .i64 3), .lit (.int .i64 3)], .agg [.lit (.int .i64 26), .lit (.int .i64 1), .lit (.int .i64 1), .lit (.int .i64 4), .lit (.int .i64 4)], .agg [.lit (.int .i64 32), .lit (.int .i64 1), .lit (.int .i64 2), .lit (.int .i64 1), .lit (.int .i64 11)], .agg [.lit (.int .i64 35), .lit (.int .i64 4), .lit (.int .i64 2), .lit (.int .i64 1), .lit (.int .i64 37)], .agg [.lit (.int .i64 37), .lit (.int .i64 3), .lit (.int .i64 1), .lit (.int .i64 12), .lit (.int .i64 12)], .agg [.lit (.int .i64 38), .lit (.int .i64 3), .lit (.int .i64 1), .lit (.int .i64 6), .lit (.int .i64 6)], .agg [.lit (.int .i64 39), .lit (.int .i64 1), .lit (.int .i64 1), .lit (.int .i64 3), .lit (.int .i64 3)], .agg [.lit (.int .i64 41), .lit (.int .i64 4), .lit (.int .i64 1), .lit (.int .i64 8), .lit (.int .i64 8)], .agg [.lit (.int .i64 42), .lit (.int .i64 4), .lit (.int .i64 1), .lit (.int .i64 15), .lit (.int .i64 15)], .agg [.lit (.int .i64 43), .lit (.int .i64 4), .lit (.int .i64 2), .lit (.int .i64 1), .lit (.int .i64 99)], .agg [.lit (.int .i64 48), .lit (.int .i64 4), .lit (.int .i64 3), .lit (.int .i64 1), .lit (.int .i64 999)], .agg [.lit (.int .i64 49), .lit (.int .i64 1), .lit (.int .i64 1), .lit (.int .i64 3), .lit (.int .i64 3)], .agg [.lit (.int .i64 52), .lit (.int .i64 5), .lit (.int .i64 1), .lit (.int .i64 8), .lit (.int .i64 8)], .agg [.lit (.int .i64 55), .lit (.int .i64 6), .lit (.int .i64 3), .lit (.int .i64 1), .lit (.int .i64 255)], .agg [.lit (.int .i64 64), .lit (.int .i64 5), .lit (.int .i64 1), .lit (.int .i64 8), .lit (.int .i64 8)], .agg [.lit (.int .i64 70), .lit (.int .i64 1), .lit (.int .i64 1), .lit (.int .i64 3), .lit (.int .i64 3)], .agg [.lit (.int .i64 102), .lit (.int .i64 4), .lit (.int .i64 2), .lit (.int .i64 1), .lit (.int .i64 28)], .agg [.lit (.int .i64 128), .lit (.int .i64 5), .lit (.int .i64 1), .lit (.int .i64 8), .lit (.int .i64 8)]]

/-- 'groatlaw22.InvertChecks': WHATEVER THE INPUT: true; the input reads as it did. -/
def invertChecksSpec : ChangeSpec := { name := "invertChecks", fn := fun _ => fun
  | [d1, d2] => { results := [.lit (.bool true)], args := [d1, d2] }
  | _ => none }
def invertChecksRow : OpenClaim := { program := "ytbhlennolghjmaadoor", sum := "57f61318e451a47e3f428729694a2a4d236792bb63c10f94a75111ad19b9af20", func := "groat/groatlaw22.InvertChecks", spec := "invertChecks", named := ["groat/class.kindsOf"], apart := false, laid := [("groat/class.kindsOf", laid_groat_class_kindsOf)] }
def InvertChecksSaid : Prop := invertChecksRow.holds Tryd.pinned (OpenSpec.ofChange invertChecksSpec)

/-- ITS FALSE NEIGHBOUR: 'it returns false'. Refute it at one input. -/
def invertChecksWrong : ChangeSpec := { name := "invertChecks", fn := fun _ => fun
  | [d1, d2] => { results := [.lit (.bool false)], args := [d1, d2] }
  | _ => none }
def InvertChecksWrongFalsely : Prop := invertChecksRow.holds Tryd.pinned (OpenSpec.ofChange invertChecksWrong)

/-- 'groatlaw22.InvertTurns': WHATEVER THE INPUT: true; the input reads as it did. -/
def invertTurnsSpec : ChangeSpec := { name := "invertTurns", fn := fun _ => fun
  | [d1, d2] => { results := [.lit (.bool true)], args := [d1, d2] }
  | _ => none }
def invertTurnsRow : OpenClaim := { program := "ytbhlennolghjmaadoor", sum := "57f61318e451a47e3f428729694a2a4d236792bb63c10f94a75111ad19b9af20", func := "groat/groatlaw22.InvertTurns", spec := "invertTurns", named := ["groat/class.kindsOf"], apart := false, laid := [("groat/class.kindsOf", laid_groat_class_kindsOf)] }
def InvertTurnsSaid : Prop := invertTurnsRow.holds Tryd.pinned (OpenSpec.ofChange invertTurnsSpec)

/-- ITS FALSE NEIGHBOUR: 'it returns false'. Refute it at one input. -/
def invertTurnsWrong : ChangeSpec := { name := "invertTurns", fn := fun _ => fun
  | [d1, d2] => { results := [.lit (.bool false)], args := [d1, d2] }
  | _ => none }
def InvertTurnsWrongFalsely : Prop := invertTurnsRow.holds Tryd.pinned (OpenSpec.ofChange invertTurnsWrong)

/-- 'groatlaw22.InvertBack': WHATEVER THE INPUT: true; the input reads as it did. -/
def invertBackSpec : ChangeSpec := { name := "invertBack", fn := fun _ => fun
  | [d1, d2, d3] => { results := [.lit (.bool true)], args := [d1, d2, d3] }
  | _ => none }
def invertBackRow : OpenClaim := { program := "ytbhlennolghjmaadoor", sum := "57f61318e451a47e3f428729694a2a4d236792bb63c10f94a75111ad19b9af20", func := "groat/groatlaw22.InvertBack", spec := "invertBack", inPlace := ["internal/abi.NoEscape", "internal/bytealg.MakeNoZero"], named := ["groat/class.kindsOf"], apart := false, laid := [("groat/class.kindsOf", laid_groat_class_kindsOf)] }
def InvertBackSaid : Prop := invertBackRow.holds Tryd.pinned (OpenSpec.ofChange invertBackSpec)

/-- ITS FALSE NEIGHBOUR: 'it returns false'. Refute it at one input. -/
def invertBackWrong : ChangeSpec := { name := "invertBack", fn := fun _ => fun
  | [d1, d2, d3] => { results := [.lit (.bool false)], args := [d1, d2, d3] }
  | _ => none }
def InvertBackWrongFalsely : Prop := invertBackRow.holds Tryd.pinned (OpenSpec.ofChange invertBackWrong)

/-- 'groatlaw22.InvertSchemas': WHATEVER THE INPUT: true; the input reads as it did. -/
def invertSchemasSpec : ChangeSpec := { name := "invertSchemas", fn := fun _ => fun
  | [d1, d2, d3] => { results := [.lit (.bool true)], args := [d1, d2, d3] }
  | _ => none }
def invertSchemasRow : OpenClaim := { program := "ytbhlennolghjmaadoor", sum := "57f61318e451a47e3f428729694a2a4d236792bb63c10f94a75111ad19b9af20", func := "groat/groatlaw22.InvertSchemas", spec := "invertSchemas", inPlace := ["internal/abi.NoEscape", "internal/bytealg.MakeNoZero"], named := ["groat/class.kindsOf", "groat/dialect.acquirer", "groat/dialect.issuer"], apart := false, laid := [("groat/class.kindsOf", laid_groat_class_kindsOf), ("groat/dialect.acquirer", laid_groat_dialect_acquirer), ("groat/dialect.issuer", laid_groat_dialect_issuer)] }
def InvertSchemasSaid : Prop := invertSchemasRow.holds Tryd.pinned (OpenSpec.ofChange invertSchemasSpec)

/-- ITS FALSE NEIGHBOUR: 'it returns false'. Refute it at one input. -/
def invertSchemasWrong : ChangeSpec := { name := "invertSchemas", fn := fun _ => fun
  | [d1, d2, d3] => { results := [.lit (.bool false)], args := [d1, d2, d3] }
  | _ => none }
def InvertSchemasWrongFalsely : Prop := invertSchemasRow.holds Tryd.pinned (OpenSpec.ofChange invertSchemasWrong)

/- THE SECOND FORM. 'bulk': how many values and letters a reading holds, each counted each time it is reached (what is shared counts as often as it is met; a slice's spare places count too). A statement '..UptoSaid' is the law's where the arguments, and the package variables that the reading takes, are together of bulk at most 1048576: NARROWER than '..Said'. Prove '..Said' where nothing that the law and all that it calls make is longer than what came in: it says more and counts as full. Else prove '..UptoSaid'. A law counts once. -/
mutual
def uptoBulk {H : Type} : DataW H → Nat
  | .lit (.string bytes) => bytes.length + 1
  | .lit _ => 1
  | .nil => 1
  | .ptr d => uptoBulk d + 1
  | .slice elems spare => uptoBulkAll elems + uptoBulkAll spare + 1
  | .agg parts => uptoBulkAll parts + 1
  | .iface _ d => uptoBulk d + 1
  | .map entries => uptoBulkEntries entries + 1
  | .held _ => 1
def uptoBulkAll {H : Type} : List (DataW H) → Nat
  | [] => 0
  | d :: r => uptoBulk d + uptoBulkAll r
def uptoBulkEntries {H : Type} : List (Lit × DataW H) → Nat
  | [] => 0
  | x :: r => uptoBulkEntry x + uptoBulkEntries r
def uptoBulkEntry {H : Type} : Lit × DataW H → Nat
  | (.string bytes, d) => bytes.length + uptoBulk d + 1
  | (_, d) => uptoBulk d + 1
 end
def uptoSmall : (H : Type) → List (DataW H) → Bool := fun _ ds => decide (uptoBulkAll ds ≤ 1048576)
def OpenSpec.upto (s : _root_.Go.ChangeSpec) : _root_.Go.OpenSpec := { _root_.Go.OpenSpec.ofChange s with cond := some uptoSmall }

/-- 'groatlaw22.InvertChecks', WHERE WHAT IT READS IS OF BULK AT MOST 1048576: true; the input reads as it did. -/
def invertChecksUptoRow : OpenClaim := { program := "ytbhlennolghjmaadoor", sum := "57f61318e451a47e3f428729694a2a4d236792bb63c10f94a75111ad19b9af20", func := "groat/groatlaw22.InvertChecks", spec := "invertChecks", named := ["groat/class.kindsOf"], apart := false, laid := [("groat/class.kindsOf", laid_groat_class_kindsOf)], narrowed := true }
def InvertChecksUptoSaid : Prop := invertChecksUptoRow.holds Tryd.pinned (OpenSpec.upto invertChecksSpec)

/-- 'groatlaw22.InvertTurns', WHERE WHAT IT READS IS OF BULK AT MOST 1048576: true; the input reads as it did. -/
def invertTurnsUptoRow : OpenClaim := { program := "ytbhlennolghjmaadoor", sum := "57f61318e451a47e3f428729694a2a4d236792bb63c10f94a75111ad19b9af20", func := "groat/groatlaw22.InvertTurns", spec := "invertTurns", named := ["groat/class.kindsOf"], apart := false, laid := [("groat/class.kindsOf", laid_groat_class_kindsOf)], narrowed := true }
def InvertTurnsUptoSaid : Prop := invertTurnsUptoRow.holds Tryd.pinned (OpenSpec.upto invertTurnsSpec)

/-- 'groatlaw22.InvertBack', WHERE WHAT IT READS IS OF BULK AT MOST 1048576: true; the input reads as it did. -/
def invertBackUptoRow : OpenClaim := { program := "ytbhlennolghjmaadoor", sum := "57f61318e451a47e3f428729694a2a4d236792bb63c10f94a75111ad19b9af20", func := "groat/groatlaw22.InvertBack", spec := "invertBack", inPlace := ["internal/abi.NoEscape", "internal/bytealg.MakeNoZero"], named := ["groat/class.kindsOf"], apart := false, laid := [("groat/class.kindsOf", laid_groat_class_kindsOf)], narrowed := true }
def InvertBackUptoSaid : Prop := invertBackUptoRow.holds Tryd.pinned (OpenSpec.upto invertBackSpec)

/-- 'groatlaw22.InvertSchemas', WHERE WHAT IT READS IS OF BULK AT MOST 1048576: true; the input reads as it did. -/
def invertSchemasUptoRow : OpenClaim := { program := "ytbhlennolghjmaadoor", sum := "57f61318e451a47e3f428729694a2a4d236792bb63c10f94a75111ad19b9af20", func := "groat/groatlaw22.InvertSchemas", spec := "invertSchemas", inPlace := ["internal/abi.NoEscape", "internal/bytealg.MakeNoZero"], named := ["groat/class.kindsOf", "groat/dialect.acquirer", "groat/dialect.issuer"], apart := false, laid := [("groat/class.kindsOf", laid_groat_class_kindsOf), ("groat/dialect.acquirer", laid_groat_dialect_acquirer), ("groat/dialect.issuer", laid_groat_dialect_issuer)], narrowed := true }
def InvertSchemasUptoSaid : Prop := invertSchemasUptoRow.holds Tryd.pinned (OpenSpec.upto invertSchemasSpec)

end Rows
end Go.Proofs.YtbhlennolghjmaaDoor
