/-
  NARROWER THAN 'FOR EVERY INPUT', by the rows' own cells (each row's printed sentence says how): XlateChecks: laid · XlateTranslates: laid · XlateAll: laid.
  DERIVED. THE GIVEN ROWS OF THIS SEAT. 3 by the template 'for every input the law returns true; each argument reads behind the call as it read before'; 0 by the template 'total and deterministic' (their statements: YthheflgfbdcnlaaGreatDoorTotals.lean).
  GIVEN WITH THE SEED: the statements are not yours to turn. If you find one false, say at which input.
  Laid BY PROGRAM, IN A SANDBOX (cutbox-rows.mjs): the forced cells as the released guide's own fill.sh prints them over the translation 30e4ec1684644a9e… (all of the seat's roots in one cut). By AI agents, Wed Nov 11 2026. No macro, syntax, notation, axiom, sorry.
-/
import Derived.Test.YthheflgfbdcnlaaGreatDoorChecked
import GoSem.Claim
import GoSem.ClaimJoined
import GoSem.ClaimMapViews
import Derived.JoinedTies
import Derived.KernelRfl
namespace Go.Proofs.YthheflgfbdcnlaaGreatDoor
/- THE CELL 'sum', in the pinned program and in every row, IS THE sha256 OF THE DUMP (.gsa) THAT YthheflgfbdcnlaaGreatDoorProg.lean LOADS. Nothing in Lean hashes anything: it is a label: what it is worth is what the hold of that sum in a sandbox is worth. -/
noncomputable def Tryz.pinned : Pinned := { name := "ythheflgfbdcnlaagreatdoor", sum := "30e4ec1684644a9e8b085c878b4e4e74064d372910a27161b171ba73731e80c8", checked := Tryz.checked }
namespace Rows
def none {H : Type} : Left H := { results := [], args := [] }

/- WHAT THE LISTED PACKAGE-LEVEL VARIABLES READ AS WHEN THE CALL BEGINS. Each datum BY PROGRAM (the guide's laid-datum.mjs) off the statement by which the dump's own 'gosem.cut.vars' lays the variable. In a bare row this is a premise. The card (YthheflgfbdcnlaaGreatDoorCards.lean) ties it to the program's text. -/
def laid_groat_class_kindsOf {H : Type} : DataW H := .agg [.lit (.int .i64 0), .lit (.int .i64 1), .lit (.int .i64 2), .lit (.int .i64 3), .lit (.int .i64 7), .lit (.int .i64 15), .lit (.int .i64 15)]

/-- 'groatlaw21.XlateChecks': WHATEVER THE INPUT: true; the input reads as it did. -/
def xlateChecksSpec : ChangeSpec := { name := "xlateChecks", fn := fun _ => fun
  | [d1, d2] => { results := [.lit (.bool true)], args := [d1, d2] }
  | _ => none }
def xlateChecksRow : OpenClaim := { program := "ythheflgfbdcnlaagreatdoor", sum := "30e4ec1684644a9e8b085c878b4e4e74064d372910a27161b171ba73731e80c8", func := "groat/groatlaw21.XlateChecks", spec := "xlateChecks", inPlace := ["internal/abi.NoEscape", "internal/bytealg.MakeNoZero"], named := ["groat/class.kindsOf"], apart := false, laid := [("groat/class.kindsOf", laid_groat_class_kindsOf)] }
def XlateChecksSaid : Prop := xlateChecksRow.holds Tryz.pinned (OpenSpec.ofChange xlateChecksSpec)

/-- ITS FALSE NEIGHBOUR: 'it returns false'. Refute it at one input. -/
def xlateChecksWrong : ChangeSpec := { name := "xlateChecks", fn := fun _ => fun
  | [d1, d2] => { results := [.lit (.bool false)], args := [d1, d2] }
  | _ => none }
def XlateChecksWrongFalsely : Prop := xlateChecksRow.holds Tryz.pinned (OpenSpec.ofChange xlateChecksWrong)

/-- 'groatlaw21.XlateTranslates': WHATEVER THE INPUT: true; the input reads as it did. -/
def xlateTranslatesSpec : ChangeSpec := { name := "xlateTranslates", fn := fun _ => fun
  | [d1, d2, d3] => { results := [.lit (.bool true)], args := [d1, d2, d3] }
  | _ => none }
def xlateTranslatesRow : OpenClaim := { program := "ythheflgfbdcnlaagreatdoor", sum := "30e4ec1684644a9e8b085c878b4e4e74064d372910a27161b171ba73731e80c8", func := "groat/groatlaw21.XlateTranslates", spec := "xlateTranslates", inPlace := ["internal/abi.NoEscape", "internal/bytealg.MakeNoZero"], named := ["groat/class.kindsOf"], apart := false, laid := [("groat/class.kindsOf", laid_groat_class_kindsOf)] }
def XlateTranslatesSaid : Prop := xlateTranslatesRow.holds Tryz.pinned (OpenSpec.ofChange xlateTranslatesSpec)

/-- ITS FALSE NEIGHBOUR: 'it returns false'. Refute it at one input. -/
def xlateTranslatesWrong : ChangeSpec := { name := "xlateTranslates", fn := fun _ => fun
  | [d1, d2, d3] => { results := [.lit (.bool false)], args := [d1, d2, d3] }
  | _ => none }
def XlateTranslatesWrongFalsely : Prop := xlateTranslatesRow.holds Tryz.pinned (OpenSpec.ofChange xlateTranslatesWrong)

/-- 'groatlaw21.XlateAll': WHATEVER THE INPUT: true; the input reads as it did. -/
def xlateAllSpec : ChangeSpec := { name := "xlateAll", fn := fun _ => fun
  | [d1, d2, d3] => { results := [.lit (.bool true)], args := [d1, d2, d3] }
  | _ => none }
def xlateAllRow : OpenClaim := { program := "ythheflgfbdcnlaagreatdoor", sum := "30e4ec1684644a9e8b085c878b4e4e74064d372910a27161b171ba73731e80c8", func := "groat/groatlaw21.XlateAll", spec := "xlateAll", inPlace := ["internal/abi.NoEscape", "internal/bytealg.MakeNoZero"], named := ["groat/class.kindsOf"], apart := false, laid := [("groat/class.kindsOf", laid_groat_class_kindsOf)] }
def XlateAllSaid : Prop := xlateAllRow.holds Tryz.pinned (OpenSpec.ofChange xlateAllSpec)

/-- ITS FALSE NEIGHBOUR: 'it returns false'. Refute it at one input. -/
def xlateAllWrong : ChangeSpec := { name := "xlateAll", fn := fun _ => fun
  | [d1, d2, d3] => { results := [.lit (.bool false)], args := [d1, d2, d3] }
  | _ => none }
def XlateAllWrongFalsely : Prop := xlateAllRow.holds Tryz.pinned (OpenSpec.ofChange xlateAllWrong)

/- THE SECOND FORM. 'bulk': how many values and letters a reading holds, each counted each time it is reached (what is shared counts as often as it is met; a slice's spare places count too). A statement '..UptoSaid' is the law's where the arguments, and the package variables that the reading takes, are together of bulk at most 1048576: NARROWER than '..Said'. Prove '..Said' where nothing that the law and all that it calls make is longer than what came in: it says more and counts as full. Else prove '..UptoSaid'. A law counts once. -/
mutual
def uptoBulk {H : Type} : DataW H → Nat
  | .lit (.string bytes) => bytes.length + 1
  | .lit _ => 1
  | .nil => 1
  | .ptr d => uptoBulk d + 1
  | .slice elems spare => uptoBulkAll elems + uptoBulkAll spare + 1
  | .agg parts => uptoBulkAll parts + 1
  | .iface _ d => uptoBulk d + 1
  | .map entries => uptoBulkEntries entries + 1
  | .held _ => 1
def uptoBulkAll {H : Type} : List (DataW H) → Nat
  | [] => 0
  | d :: r => uptoBulk d + uptoBulkAll r
def uptoBulkEntries {H : Type} : List (Lit × DataW H) → Nat
  | [] => 0
  | x :: r => uptoBulkEntry x + uptoBulkEntries r
def uptoBulkEntry {H : Type} : Lit × DataW H → Nat
  | (.string bytes, d) => bytes.length + uptoBulk d + 1
  | (_, d) => uptoBulk d + 1
 end
def uptoSmall : (H : Type) → List (DataW H) → Bool := fun _ ds => decide (uptoBulkAll ds ≤ 1048576)
def OpenSpec.upto (s : _root_.Go.ChangeSpec) : _root_.Go.OpenSpec := { _root_.Go.OpenSpec.ofChange s with cond := some uptoSmall }

/-- 'groatlaw21.XlateChecks', WHERE WHAT IT READS IS OF BULK AT MOST 1048576: true; the input reads as it did. -/
def xlateChecksUptoRow : OpenClaim := { program := "ythheflgfbdcnlaagreatdoor", sum := "30e4ec1684644a9e8b085c878b4e4e74064d372910a27161b171ba73731e80c8", func := "groat/groatlaw21.XlateChecks", spec := "xlateChecks", inPlace := ["internal/abi.NoEscape", "internal/bytealg.MakeNoZero"], named := ["groat/class.kindsOf"], apart := false, laid := [("groat/class.kindsOf", laid_groat_class_kindsOf)], narrowed := true }
def XlateChecksUptoSaid : Prop := xlateChecksUptoRow.holds Tryz.pinned (OpenSpec.upto xlateChecksSpec)

/-- 'groatlaw21.XlateTranslates', WHERE WHAT IT READS IS OF BULK AT MOST 1048576: true; the input reads as it did. -/
def xlateTranslatesUptoRow : OpenClaim := { program := "ythheflgfbdcnlaagreatdoor", sum := "30e4ec1684644a9e8b085c878b4e4e74064d372910a27161b171ba73731e80c8", func := "groat/groatlaw21.XlateTranslates", spec := "xlateTranslates", inPlace := ["internal/abi.NoEscape", "internal/bytealg.MakeNoZero"], named := ["groat/class.kindsOf"], apart := false, laid := [("groat/class.kindsOf", laid_groat_class_kindsOf)], narrowed := true }
def XlateTranslatesUptoSaid : Prop := xlateTranslatesUptoRow.holds Tryz.pinned (OpenSpec.upto xlateTranslatesSpec)

/-- 'groatlaw21.XlateAll', WHERE WHAT IT READS IS OF BULK AT MOST 1048576: true; the input reads as it did. -/
def xlateAllUptoRow : OpenClaim := { program := "ythheflgfbdcnlaagreatdoor", sum := "30e4ec1684644a9e8b085c878b4e4e74064d372910a27161b171ba73731e80c8", func := "groat/groatlaw21.XlateAll", spec := "xlateAll", inPlace := ["internal/abi.NoEscape", "internal/bytealg.MakeNoZero"], named := ["groat/class.kindsOf"], apart := false, laid := [("groat/class.kindsOf", laid_groat_class_kindsOf)], narrowed := true }
def XlateAllUptoSaid : Prop := xlateAllUptoRow.holds Tryz.pinned (OpenSpec.upto xlateAllSpec)

end Rows
end Go.Proofs.YthheflgfbdcnlaaGreatDoor
