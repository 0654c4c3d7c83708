/-
  NARROWER THAN 'FOR EVERY INPUT', by the rows' own cells (each row's printed sentence says how): RuleChecks: laid · RuleApply: laid · RuleValid: laid · RuleSame: laid.
  DERIVED. THE GIVEN ROWS OF THIS SEAT. 4 by the template 'for every input the law returns true; each argument reads behind the call as it read before'; 0 by the template 'total and deterministic' (their statements: YtkbpinjcenfjlaaDoorTotals.lean).
  GIVEN WITH THE SEED: the statements are not yours to turn. If you find one false, say at which input.
  Laid BY PROGRAM, IN A SANDBOX (cutbox-rows.mjs): the forced cells as the released guide's own fill.sh prints them over the translation f0170727d00bd571… (all of the seat's roots in one cut). By AI agents, Wed Nov 11 2026. No macro, syntax, notation, axiom, sorry.
-/
import Derived.Test.YtkbpinjcenfjlaaDoorChecked
import GoSem.Claim
import GoSem.ClaimJoined
import GoSem.ClaimMapViews
import Derived.JoinedTies
import Derived.KernelRfl
namespace Go.Proofs.YtkbpinjcenfjlaaDoor
/- THE CELL 'sum', in the pinned program and in every row, IS THE sha256 OF THE DUMP (.gsa) THAT YtkbpinjcenfjlaaDoorProg.lean LOADS. Nothing in Lean hashes anything: it is a label: what it is worth is what the hold of that sum in a sandbox is worth. -/
noncomputable def Tryd.pinned : Pinned := { name := "ytkbpinjcenfjlaadoor", sum := "f0170727d00bd5714a9da8dd8fb113f734353fddd54dfe89933479c06a1e66f5", checked := Tryd.checked }
namespace Rows
def none {H : Type} : Left H := { results := [], args := [] }

/- WHAT THE LISTED PACKAGE-LEVEL VARIABLES READ AS WHEN THE CALL BEGINS. Each datum BY PROGRAM (the guide's laid-datum.mjs) off the statement by which the dump's own 'gosem.cut.vars' lays the variable. In a bare row this is a premise. The card (YtkbpinjcenfjlaaDoorCards.lean) ties it to the program's text. -/
def laid_groat_class_kindsOf {H : Type} : DataW H := .agg [.lit (.int .i64 0), .lit (.int .i64 1), .lit (.int .i64 2), .lit (.int .i64 3), .lit (.int .i64 7), .lit (.int .i64 15), .lit (.int .i64 15)]

/-- 'groatlaw20.RuleChecks': WHATEVER THE INPUT: true; the input reads as it did. -/
def ruleChecksSpec : ChangeSpec := { name := "ruleChecks", fn := fun _ => fun
  | [d1, d2, d3] => { results := [.lit (.bool true)], args := [d1, d2, d3] }
  | _ => none }
def ruleChecksRow : OpenClaim := { program := "ytkbpinjcenfjlaadoor", sum := "f0170727d00bd5714a9da8dd8fb113f734353fddd54dfe89933479c06a1e66f5", func := "groat/groatlaw20.RuleChecks", spec := "ruleChecks", inPlace := ["internal/abi.NoEscape", "internal/bytealg.MakeNoZero"], named := ["groat/class.kindsOf"], apart := false, laid := [("groat/class.kindsOf", laid_groat_class_kindsOf)] }
def RuleChecksSaid : Prop := ruleChecksRow.holds Tryd.pinned (OpenSpec.ofChange ruleChecksSpec)

/-- ITS FALSE NEIGHBOUR: 'it returns false'. Refute it at one input. -/
def ruleChecksWrong : ChangeSpec := { name := "ruleChecks", fn := fun _ => fun
  | [d1, d2, d3] => { results := [.lit (.bool false)], args := [d1, d2, d3] }
  | _ => none }
def RuleChecksWrongFalsely : Prop := ruleChecksRow.holds Tryd.pinned (OpenSpec.ofChange ruleChecksWrong)

/-- 'groatlaw20.RuleApply': WHATEVER THE INPUT: true; the input reads as it did. -/
def ruleApplySpec : ChangeSpec := { name := "ruleApply", fn := fun _ => fun
  | [d1, d2, d3] => { results := [.lit (.bool true)], args := [d1, d2, d3] }
  | _ => none }
def ruleApplyRow : OpenClaim := { program := "ytkbpinjcenfjlaadoor", sum := "f0170727d00bd5714a9da8dd8fb113f734353fddd54dfe89933479c06a1e66f5", func := "groat/groatlaw20.RuleApply", spec := "ruleApply", inPlace := ["internal/abi.NoEscape", "internal/bytealg.MakeNoZero"], named := ["groat/class.kindsOf"], apart := false, laid := [("groat/class.kindsOf", laid_groat_class_kindsOf)] }
def RuleApplySaid : Prop := ruleApplyRow.holds Tryd.pinned (OpenSpec.ofChange ruleApplySpec)

/-- ITS FALSE NEIGHBOUR: 'it returns false'. Refute it at one input. -/
def ruleApplyWrong : ChangeSpec := { name := "ruleApply", fn := fun _ => fun
  | [d1, d2, d3] => { results := [.lit (.bool false)], args := [d1, d2, d3] }
  | _ => none }
def RuleApplyWrongFalsely : Prop := ruleApplyRow.holds Tryd.pinned (OpenSpec.ofChange ruleApplyWrong)

/-- 'groatlaw20.RuleValid': WHATEVER THE INPUT: true; the input reads as it did. -/
def ruleValidSpec : ChangeSpec := { name := "ruleValid", fn := fun _ => fun
  | [d1, d2, d3] => { results := [.lit (.bool true)], args := [d1, d2, d3] }
  | _ => none }
def ruleValidRow : OpenClaim := { program := "ytkbpinjcenfjlaadoor", sum := "f0170727d00bd5714a9da8dd8fb113f734353fddd54dfe89933479c06a1e66f5", func := "groat/groatlaw20.RuleValid", spec := "ruleValid", inPlace := ["internal/abi.NoEscape", "internal/bytealg.MakeNoZero"], named := ["groat/class.kindsOf"], apart := false, laid := [("groat/class.kindsOf", laid_groat_class_kindsOf)] }
def RuleValidSaid : Prop := ruleValidRow.holds Tryd.pinned (OpenSpec.ofChange ruleValidSpec)

/-- ITS FALSE NEIGHBOUR: 'it returns false'. Refute it at one input. -/
def ruleValidWrong : ChangeSpec := { name := "ruleValid", fn := fun _ => fun
  | [d1, d2, d3] => { results := [.lit (.bool false)], args := [d1, d2, d3] }
  | _ => none }
def RuleValidWrongFalsely : Prop := ruleValidRow.holds Tryd.pinned (OpenSpec.ofChange ruleValidWrong)

/-- 'groatlaw20.RuleSame': WHATEVER THE INPUT: true; the input reads as it did. -/
def ruleSameSpec : ChangeSpec := { name := "ruleSame", fn := fun _ => fun
  | [d1, d2, d3] => { results := [.lit (.bool true)], args := [d1, d2, d3] }
  | _ => none }
def ruleSameRow : OpenClaim := { program := "ytkbpinjcenfjlaadoor", sum := "f0170727d00bd5714a9da8dd8fb113f734353fddd54dfe89933479c06a1e66f5", func := "groat/groatlaw20.RuleSame", spec := "ruleSame", inPlace := ["internal/abi.NoEscape", "internal/bytealg.MakeNoZero"], named := ["groat/class.kindsOf"], apart := false, laid := [("groat/class.kindsOf", laid_groat_class_kindsOf)] }
def RuleSameSaid : Prop := ruleSameRow.holds Tryd.pinned (OpenSpec.ofChange ruleSameSpec)

/-- ITS FALSE NEIGHBOUR: 'it returns false'. Refute it at one input. -/
def ruleSameWrong : ChangeSpec := { name := "ruleSame", fn := fun _ => fun
  | [d1, d2, d3] => { results := [.lit (.bool false)], args := [d1, d2, d3] }
  | _ => none }
def RuleSameWrongFalsely : Prop := ruleSameRow.holds Tryd.pinned (OpenSpec.ofChange ruleSameWrong)

/- THE SECOND FORM. 'bulk': how many values and letters a reading holds, each counted each time it is reached (what is shared counts as often as it is met; a slice's spare places count too). A statement '..UptoSaid' is the law's where the arguments, and the package variables that the reading takes, are together of bulk at most 1048576: NARROWER than '..Said'. Prove '..Said' where nothing that the law and all that it calls make is longer than what came in: it says more and counts as full. Else prove '..UptoSaid'. A law counts once. -/
mutual
def uptoBulk {H : Type} : DataW H → Nat
  | .lit (.string bytes) => bytes.length + 1
  | .lit _ => 1
  | .nil => 1
  | .ptr d => uptoBulk d + 1
  | .slice elems spare => uptoBulkAll elems + uptoBulkAll spare + 1
  | .agg parts => uptoBulkAll parts + 1
  | .iface _ d => uptoBulk d + 1
  | .map entries => uptoBulkEntries entries + 1
  | .held _ => 1
def uptoBulkAll {H : Type} : List (DataW H) → Nat
  | [] => 0
  | d :: r => uptoBulk d + uptoBulkAll r
def uptoBulkEntries {H : Type} : List (Lit × DataW H) → Nat
  | [] => 0
  | x :: r => uptoBulkEntry x + uptoBulkEntries r
def uptoBulkEntry {H : Type} : Lit × DataW H → Nat
  | (.string bytes, d) => bytes.length + uptoBulk d + 1
  | (_, d) => uptoBulk d + 1
 end
def uptoSmall : (H : Type) → List (DataW H) → Bool := fun _ ds => decide (uptoBulkAll ds ≤ 1048576)
def OpenSpec.upto (s : _root_.Go.ChangeSpec) : _root_.Go.OpenSpec := { _root_.Go.OpenSpec.ofChange s with cond := some uptoSmall }

/-- 'groatlaw20.RuleChecks', WHERE WHAT IT READS IS OF BULK AT MOST 1048576: true; the input reads as it did. -/
def ruleChecksUptoRow : OpenClaim := { program := "ytkbpinjcenfjlaadoor", sum := "f0170727d00bd5714a9da8dd8fb113f734353fddd54dfe89933479c06a1e66f5", func := "groat/groatlaw20.RuleChecks", spec := "ruleChecks", inPlace := ["internal/abi.NoEscape", "internal/bytealg.MakeNoZero"], named := ["groat/class.kindsOf"], apart := false, laid := [("groat/class.kindsOf", laid_groat_class_kindsOf)], narrowed := true }
def RuleChecksUptoSaid : Prop := ruleChecksUptoRow.holds Tryd.pinned (OpenSpec.upto ruleChecksSpec)

/-- 'groatlaw20.RuleApply', WHERE WHAT IT READS IS OF BULK AT MOST 1048576: true; the input reads as it did. -/
def ruleApplyUptoRow : OpenClaim := { program := "ytkbpinjcenfjlaadoor", sum := "f0170727d00bd5714a9da8dd8fb113f734353fddd54dfe89933479c06a1e66f5", func := "groat/groatlaw20.RuleApply", spec := "ruleApply", inPlace := ["internal/abi.NoEscape", "internal/bytealg.MakeNoZero"], named := ["groat/class.kindsOf"], apart := false, laid := [("groat/class.kindsOf", laid_groat_class_kindsOf)], narrowed := true }
def RuleApplyUptoSaid : Prop := ruleApplyUptoRow.holds Tryd.pinned (OpenSpec.upto ruleApplySpec)

/-- 'groatlaw20.RuleValid', WHERE WHAT IT READS IS OF BULK AT MOST 1048576: true; the input reads as it did. -/
def ruleValidUptoRow : OpenClaim := { program := "ytkbpinjcenfjlaadoor", sum := "f0170727d00bd5714a9da8dd8fb113f734353fddd54dfe89933479c06a1e66f5", func := "groat/groatlaw20.RuleValid", spec := "ruleValid", inPlace := ["internal/abi.NoEscape", "internal/bytealg.MakeNoZero"], named := ["groat/class.kindsOf"], apart := false, laid := [("groat/class.kindsOf", laid_groat_class_kindsOf)], narrowed := true }
def RuleValidUptoSaid : Prop := ruleValidUptoRow.holds Tryd.pinned (OpenSpec.upto ruleValidSpec)

/-- 'groatlaw20.RuleSame', WHERE WHAT IT READS IS OF BULK AT MOST 1048576: true; the input reads as it did. -/
def ruleSameUptoRow : OpenClaim := { program := "ytkbpinjcenfjlaadoor", sum := "f0170727d00bd5714a9da8dd8fb113f734353fddd54dfe89933479c06a1e66f5", func := "groat/groatlaw20.RuleSame", spec := "ruleSame", inPlace := ["internal/abi.NoEscape", "internal/bytealg.MakeNoZero"], named := ["groat/class.kindsOf"], apart := false, laid := [("groat/class.kindsOf", laid_groat_class_kindsOf)], narrowed := true }
def RuleSameUptoSaid : Prop := ruleSameUptoRow.holds Tryd.pinned (OpenSpec.upto ruleSameSpec)

end Rows
end Go.Proofs.YtkbpinjcenfjlaaDoor
