/-
  NARROWER THAN 'FOR EVERY INPUT', by the rows' own cells (each row's printed sentence says how): MsgChecks: laid · MsgGets: laid · MsgWith: laid · MsgSame: laid · MsgValid: laid.
  DERIVED. THE GIVEN ROWS OF THIS SEAT. 5 by the template 'for every input the law returns true; each argument reads behind the call as it read before'; 0 by the template 'total and deterministic' (their statements: YthcdolkpdbbnkaaDoorTotals.lean).
  GIVEN WITH THE SEED: the statements are not yours to turn. If you find one false, say at which input.
  Laid BY PROGRAM, IN A SANDBOX (cutbox-rows.mjs): the forced cells as the released guide's own fill.sh prints them over the translation 2bb9806fcc2749d1… (all of the seat's roots in one cut). By AI agents, Wed Nov 11 2026. No macro, syntax, notation, axiom, sorry.
-/
import Derived.Test.YthcdolkpdbbnkaaDoorChecked
import GoSem.Claim
import GoSem.ClaimJoined
import GoSem.ClaimMapViews
import Derived.JoinedTies
import Derived.KernelRfl
namespace Go.Proofs.YthcdolkpdbbnkaaDoor
/- THE CELL 'sum', in the pinned program and in every row, IS THE sha256 OF THE DUMP (.gsa) THAT YthcdolkpdbbnkaaDoorProg.lean LOADS. Nothing in Lean hashes anything: it is a label: what it is worth is what the hold of that sum in a sandbox is worth. -/
noncomputable def Tryd.pinned : Pinned := { name := "ythcdolkpdbbnkaadoor", sum := "2bb9806fcc2749d1907b094bd938a24bd6100729e009066332723fb4ee5bcde4", checked := Tryd.checked }
namespace Rows
def none {H : Type} : Left H := { results := [], args := [] }

/- WHAT THE LISTED PACKAGE-LEVEL VARIABLES READ AS WHEN THE CALL BEGINS. Each datum BY PROGRAM (the guide's laid-datum.mjs) off the statement by which the dump's own 'gosem.cut.vars' lays the variable. In a bare row this is a premise. The card (YthcdolkpdbbnkaaDoorCards.lean) ties it to the program's text. -/
def laid_groat_class_kindsOf {H : Type} : DataW H := .agg [.lit (.int .i64 0), .lit (.int .i64 1), .lit (.int .i64 2), .lit (.int .i64 3), .lit (.int .i64 7), .lit (.int .i64 15), .lit (.int .i64 15)]

/-- 'groatlaw16.MsgChecks': WHATEVER THE INPUT: true; the input reads as it did. -/
def msgChecksSpec : ChangeSpec := { name := "msgChecks", fn := fun _ => fun
  | [d1, d2] => { results := [.lit (.bool true)], args := [d1, d2] }
  | _ => none }
def msgChecksRow : OpenClaim := { program := "ythcdolkpdbbnkaadoor", sum := "2bb9806fcc2749d1907b094bd938a24bd6100729e009066332723fb4ee5bcde4", func := "groat/groatlaw16.MsgChecks", spec := "msgChecks", named := ["groat/class.kindsOf"], apart := false, laid := [("groat/class.kindsOf", laid_groat_class_kindsOf)] }
def MsgChecksSaid : Prop := msgChecksRow.holds Tryd.pinned (OpenSpec.ofChange msgChecksSpec)

/-- ITS FALSE NEIGHBOUR: 'it returns false'. Refute it at one input. -/
def msgChecksWrong : ChangeSpec := { name := "msgChecks", fn := fun _ => fun
  | [d1, d2] => { results := [.lit (.bool false)], args := [d1, d2] }
  | _ => none }
def MsgChecksWrongFalsely : Prop := msgChecksRow.holds Tryd.pinned (OpenSpec.ofChange msgChecksWrong)

/-- 'groatlaw16.MsgGets': WHATEVER THE INPUT: true; the input reads as it did. -/
def msgGetsSpec : ChangeSpec := { name := "msgGets", fn := fun _ => fun
  | [d1, d2] => { results := [.lit (.bool true)], args := [d1, d2] }
  | _ => none }
def msgGetsRow : OpenClaim := { program := "ythcdolkpdbbnkaadoor", sum := "2bb9806fcc2749d1907b094bd938a24bd6100729e009066332723fb4ee5bcde4", func := "groat/groatlaw16.MsgGets", spec := "msgGets", named := ["groat/class.kindsOf"], apart := false, laid := [("groat/class.kindsOf", laid_groat_class_kindsOf)] }
def MsgGetsSaid : Prop := msgGetsRow.holds Tryd.pinned (OpenSpec.ofChange msgGetsSpec)

/-- ITS FALSE NEIGHBOUR: 'it returns false'. Refute it at one input. -/
def msgGetsWrong : ChangeSpec := { name := "msgGets", fn := fun _ => fun
  | [d1, d2] => { results := [.lit (.bool false)], args := [d1, d2] }
  | _ => none }
def MsgGetsWrongFalsely : Prop := msgGetsRow.holds Tryd.pinned (OpenSpec.ofChange msgGetsWrong)

/-- 'groatlaw16.MsgWith': WHATEVER THE INPUT: true; the input reads as it did. -/
def msgWithSpec : ChangeSpec := { name := "msgWith", fn := fun _ => fun
  | [d1, d2, d3] => { results := [.lit (.bool true)], args := [d1, d2, d3] }
  | _ => none }
def msgWithRow : OpenClaim := { program := "ythcdolkpdbbnkaadoor", sum := "2bb9806fcc2749d1907b094bd938a24bd6100729e009066332723fb4ee5bcde4", func := "groat/groatlaw16.MsgWith", spec := "msgWith", named := ["groat/class.kindsOf"], apart := false, laid := [("groat/class.kindsOf", laid_groat_class_kindsOf)] }
def MsgWithSaid : Prop := msgWithRow.holds Tryd.pinned (OpenSpec.ofChange msgWithSpec)

/-- ITS FALSE NEIGHBOUR: 'it returns false'. Refute it at one input. -/
def msgWithWrong : ChangeSpec := { name := "msgWith", fn := fun _ => fun
  | [d1, d2, d3] => { results := [.lit (.bool false)], args := [d1, d2, d3] }
  | _ => none }
def MsgWithWrongFalsely : Prop := msgWithRow.holds Tryd.pinned (OpenSpec.ofChange msgWithWrong)

/-- 'groatlaw16.MsgSame': WHATEVER THE INPUT: true; the input reads as it did. -/
def msgSameSpec : ChangeSpec := { name := "msgSame", fn := fun _ => fun
  | [d1, d2] => { results := [.lit (.bool true)], args := [d1, d2] }
  | _ => none }
def msgSameRow : OpenClaim := { program := "ythcdolkpdbbnkaadoor", sum := "2bb9806fcc2749d1907b094bd938a24bd6100729e009066332723fb4ee5bcde4", func := "groat/groatlaw16.MsgSame", spec := "msgSame", named := ["groat/class.kindsOf"], apart := false, laid := [("groat/class.kindsOf", laid_groat_class_kindsOf)] }
def MsgSameSaid : Prop := msgSameRow.holds Tryd.pinned (OpenSpec.ofChange msgSameSpec)

/-- ITS FALSE NEIGHBOUR: 'it returns false'. Refute it at one input. -/
def msgSameWrong : ChangeSpec := { name := "msgSame", fn := fun _ => fun
  | [d1, d2] => { results := [.lit (.bool false)], args := [d1, d2] }
  | _ => none }
def MsgSameWrongFalsely : Prop := msgSameRow.holds Tryd.pinned (OpenSpec.ofChange msgSameWrong)

/-- 'groatlaw16.MsgValid': WHATEVER THE INPUT: true; the input reads as it did. -/
def msgValidSpec : ChangeSpec := { name := "msgValid", fn := fun _ => fun
  | [d1, d2, d3] => { results := [.lit (.bool true)], args := [d1, d2, d3] }
  | _ => none }
def msgValidRow : OpenClaim := { program := "ythcdolkpdbbnkaadoor", sum := "2bb9806fcc2749d1907b094bd938a24bd6100729e009066332723fb4ee5bcde4", func := "groat/groatlaw16.MsgValid", spec := "msgValid", named := ["groat/class.kindsOf"], apart := false, laid := [("groat/class.kindsOf", laid_groat_class_kindsOf)] }
def MsgValidSaid : Prop := msgValidRow.holds Tryd.pinned (OpenSpec.ofChange msgValidSpec)

/-- ITS FALSE NEIGHBOUR: 'it returns false'. Refute it at one input. -/
def msgValidWrong : ChangeSpec := { name := "msgValid", fn := fun _ => fun
  | [d1, d2, d3] => { results := [.lit (.bool false)], args := [d1, d2, d3] }
  | _ => none }
def MsgValidWrongFalsely : Prop := msgValidRow.holds Tryd.pinned (OpenSpec.ofChange msgValidWrong)

/- THE SECOND FORM. 'bulk': how many values and letters a reading holds, each counted each time it is reached (what is shared counts as often as it is met; a slice's spare places count too). A statement '..UptoSaid' is the law's where the arguments, and the package variables that the reading takes, are together of bulk at most 1048576: NARROWER than '..Said'. Prove '..Said' where nothing that the law and all that it calls make is longer than what came in: it says more and counts as full. Else prove '..UptoSaid'. A law counts once. -/
mutual
def uptoBulk {H : Type} : DataW H → Nat
  | .lit (.string bytes) => bytes.length + 1
  | .lit _ => 1
  | .nil => 1
  | .ptr d => uptoBulk d + 1
  | .slice elems spare => uptoBulkAll elems + uptoBulkAll spare + 1
  | .agg parts => uptoBulkAll parts + 1
  | .iface _ d => uptoBulk d + 1
  | .map entries => uptoBulkEntries entries + 1
  | .held _ => 1
def uptoBulkAll {H : Type} : List (DataW H) → Nat
  | [] => 0
  | d :: r => uptoBulk d + uptoBulkAll r
def uptoBulkEntries {H : Type} : List (Lit × DataW H) → Nat
  | [] => 0
  | x :: r => uptoBulkEntry x + uptoBulkEntries r
def uptoBulkEntry {H : Type} : Lit × DataW H → Nat
  | (.string bytes, d) => bytes.length + uptoBulk d + 1
  | (_, d) => uptoBulk d + 1
 end
def uptoSmall : (H : Type) → List (DataW H) → Bool := fun _ ds => decide (uptoBulkAll ds ≤ 1048576)
def OpenSpec.upto (s : _root_.Go.ChangeSpec) : _root_.Go.OpenSpec := { _root_.Go.OpenSpec.ofChange s with cond := some uptoSmall }

/-- 'groatlaw16.MsgChecks', WHERE WHAT IT READS IS OF BULK AT MOST 1048576: true; the input reads as it did. -/
def msgChecksUptoRow : OpenClaim := { program := "ythcdolkpdbbnkaadoor", sum := "2bb9806fcc2749d1907b094bd938a24bd6100729e009066332723fb4ee5bcde4", func := "groat/groatlaw16.MsgChecks", spec := "msgChecks", named := ["groat/class.kindsOf"], apart := false, laid := [("groat/class.kindsOf", laid_groat_class_kindsOf)], narrowed := true }
def MsgChecksUptoSaid : Prop := msgChecksUptoRow.holds Tryd.pinned (OpenSpec.upto msgChecksSpec)

/-- 'groatlaw16.MsgGets', WHERE WHAT IT READS IS OF BULK AT MOST 1048576: true; the input reads as it did. -/
def msgGetsUptoRow : OpenClaim := { program := "ythcdolkpdbbnkaadoor", sum := "2bb9806fcc2749d1907b094bd938a24bd6100729e009066332723fb4ee5bcde4", func := "groat/groatlaw16.MsgGets", spec := "msgGets", named := ["groat/class.kindsOf"], apart := false, laid := [("groat/class.kindsOf", laid_groat_class_kindsOf)], narrowed := true }
def MsgGetsUptoSaid : Prop := msgGetsUptoRow.holds Tryd.pinned (OpenSpec.upto msgGetsSpec)

/-- 'groatlaw16.MsgWith', WHERE WHAT IT READS IS OF BULK AT MOST 1048576: true; the input reads as it did. -/
def msgWithUptoRow : OpenClaim := { program := "ythcdolkpdbbnkaadoor", sum := "2bb9806fcc2749d1907b094bd938a24bd6100729e009066332723fb4ee5bcde4", func := "groat/groatlaw16.MsgWith", spec := "msgWith", named := ["groat/class.kindsOf"], apart := false, laid := [("groat/class.kindsOf", laid_groat_class_kindsOf)], narrowed := true }
def MsgWithUptoSaid : Prop := msgWithUptoRow.holds Tryd.pinned (OpenSpec.upto msgWithSpec)

/-- 'groatlaw16.MsgSame', WHERE WHAT IT READS IS OF BULK AT MOST 1048576: true; the input reads as it did. -/
def msgSameUptoRow : OpenClaim := { program := "ythcdolkpdbbnkaadoor", sum := "2bb9806fcc2749d1907b094bd938a24bd6100729e009066332723fb4ee5bcde4", func := "groat/groatlaw16.MsgSame", spec := "msgSame", named := ["groat/class.kindsOf"], apart := false, laid := [("groat/class.kindsOf", laid_groat_class_kindsOf)], narrowed := true }
def MsgSameUptoSaid : Prop := msgSameUptoRow.holds Tryd.pinned (OpenSpec.upto msgSameSpec)

/-- 'groatlaw16.MsgValid', WHERE WHAT IT READS IS OF BULK AT MOST 1048576: true; the input reads as it did. -/
def msgValidUptoRow : OpenClaim := { program := "ythcdolkpdbbnkaadoor", sum := "2bb9806fcc2749d1907b094bd938a24bd6100729e009066332723fb4ee5bcde4", func := "groat/groatlaw16.MsgValid", spec := "msgValid", named := ["groat/class.kindsOf"], apart := false, laid := [("groat/class.kindsOf", laid_groat_class_kindsOf)], narrowed := true }
def MsgValidUptoSaid : Prop := msgValidUptoRow.holds Tryd.pinned (OpenSpec.upto msgValidSpec)

end Rows
end Go.Proofs.YthcdolkpdbbnkaaDoor
