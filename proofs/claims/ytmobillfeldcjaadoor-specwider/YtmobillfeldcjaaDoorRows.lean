/-
  NARROWER THAN 'FOR EVERY INPUT', by the rows' own cells (each row's printed sentence says how): SpecChecks: laid · SpecValues: laid · SpecBounds: laid · SpecWider: laid · SpecKeeps: laid.
  DERIVED. THE GIVEN ROWS OF THIS SEAT. 5 by the template 'for every input the law returns true; each argument reads behind the call as it read before'; 0 by the template 'total and deterministic' (their statements: YtmobillfeldcjaaDoorTotals.lean).
  GIVEN WITH THE SEED: the statements are not yours to turn. If you find one false, say at which input.
  Laid BY PROGRAM, IN A SANDBOX (cutbox-rows.mjs): the forced cells as the released guide's own fill.sh prints them over the translation 19cc2a5403d2579d… (all of the seat's roots in one cut). By AI agents, Wed Nov 11 2026. No macro, syntax, notation, axiom, sorry.
-/
import Derived.Test.YtmobillfeldcjaaDoorChecked
import GoSem.Claim
import GoSem.ClaimJoined
import GoSem.ClaimMapViews
import Derived.JoinedTies
import Derived.KernelRfl
namespace Go.Proofs.YtmobillfeldcjaaDoor
/- THE CELL 'sum', in the pinned program and in every row, IS THE sha256 OF THE DUMP (.gsa) THAT YtmobillfeldcjaaDoorProg.lean LOADS. Nothing in Lean hashes anything: it is a label: what it is worth is what the hold of that sum in a sandbox is worth. -/
noncomputable def Tryd.pinned : Pinned := { name := "ytmobillfeldcjaadoor", sum := "19cc2a5403d2579dbcc2478c0681856c3066e3fa344e08ae076c9cb083e9f632", checked := Tryd.checked }
namespace Rows
def none {H : Type} : Left H := { results := [], args := [] }

/- WHAT THE LISTED PACKAGE-LEVEL VARIABLES READ AS WHEN THE CALL BEGINS. Each datum BY PROGRAM (the guide's laid-datum.mjs) off the statement by which the dump's own 'gosem.cut.vars' lays the variable. In a bare row this is a premise. The card (YtmobillfeldcjaaDoorCards.lean) ties it to the program's text. -/
def laid_groat_class_kindsOf {H : Type} : DataW H := .agg [.lit (.int .i64 0), .lit (.int .i64 1), .lit (.int .i64 2), .lit (.int .i64 3), .lit (.int .i64 7), .lit (.int .i64 15), .lit (.int .i64 15)]

/-- 'groatlaw11.SpecChecks': WHATEVER THE INPUT: true; the input reads as it did. -/
def specChecksSpec : ChangeSpec := { name := "specChecks", fn := fun _ => fun
  | [d] => { results := [.lit (.bool true)], args := [d] }
  | _ => none }
def specChecksRow : OpenClaim := { program := "ytmobillfeldcjaadoor", sum := "19cc2a5403d2579dbcc2478c0681856c3066e3fa344e08ae076c9cb083e9f632", func := "groat/groatlaw11.SpecChecks", spec := "specChecks", named := ["groat/class.kindsOf"], apart := false, laid := [("groat/class.kindsOf", laid_groat_class_kindsOf)] }
def SpecChecksSaid : Prop := specChecksRow.holds Tryd.pinned (OpenSpec.ofChange specChecksSpec)

/-- ITS FALSE NEIGHBOUR: 'it returns false'. Refute it at one input. -/
def specChecksWrong : ChangeSpec := { name := "specChecks", fn := fun _ => fun
  | [d] => { results := [.lit (.bool false)], args := [d] }
  | _ => none }
def SpecChecksWrongFalsely : Prop := specChecksRow.holds Tryd.pinned (OpenSpec.ofChange specChecksWrong)

/-- 'groatlaw11.SpecValues': WHATEVER THE INPUT: true; the input reads as it did. -/
def specValuesSpec : ChangeSpec := { name := "specValues", fn := fun _ => fun
  | [d1, d2] => { results := [.lit (.bool true)], args := [d1, d2] }
  | _ => none }
def specValuesRow : OpenClaim := { program := "ytmobillfeldcjaadoor", sum := "19cc2a5403d2579dbcc2478c0681856c3066e3fa344e08ae076c9cb083e9f632", func := "groat/groatlaw11.SpecValues", spec := "specValues", named := ["groat/class.kindsOf"], apart := false, laid := [("groat/class.kindsOf", laid_groat_class_kindsOf)] }
def SpecValuesSaid : Prop := specValuesRow.holds Tryd.pinned (OpenSpec.ofChange specValuesSpec)

/-- ITS FALSE NEIGHBOUR: 'it returns false'. Refute it at one input. -/
def specValuesWrong : ChangeSpec := { name := "specValues", fn := fun _ => fun
  | [d1, d2] => { results := [.lit (.bool false)], args := [d1, d2] }
  | _ => none }
def SpecValuesWrongFalsely : Prop := specValuesRow.holds Tryd.pinned (OpenSpec.ofChange specValuesWrong)

/-- 'groatlaw11.SpecBounds': WHATEVER THE INPUT: true; the input reads as it did. -/
def specBoundsSpec : ChangeSpec := { name := "specBounds", fn := fun _ => fun
  | [d1, d2] => { results := [.lit (.bool true)], args := [d1, d2] }
  | _ => none }
def specBoundsRow : OpenClaim := { program := "ytmobillfeldcjaadoor", sum := "19cc2a5403d2579dbcc2478c0681856c3066e3fa344e08ae076c9cb083e9f632", func := "groat/groatlaw11.SpecBounds", spec := "specBounds", named := ["groat/class.kindsOf"], apart := false, laid := [("groat/class.kindsOf", laid_groat_class_kindsOf)] }
def SpecBoundsSaid : Prop := specBoundsRow.holds Tryd.pinned (OpenSpec.ofChange specBoundsSpec)

/-- ITS FALSE NEIGHBOUR: 'it returns false'. Refute it at one input. -/
def specBoundsWrong : ChangeSpec := { name := "specBounds", fn := fun _ => fun
  | [d1, d2] => { results := [.lit (.bool false)], args := [d1, d2] }
  | _ => none }
def SpecBoundsWrongFalsely : Prop := specBoundsRow.holds Tryd.pinned (OpenSpec.ofChange specBoundsWrong)

/-- 'groatlaw11.SpecWider': WHATEVER THE INPUT: true; the input reads as it did. -/
def specWiderSpec : ChangeSpec := { name := "specWider", fn := fun _ => fun
  | [d1, d2] => { results := [.lit (.bool true)], args := [d1, d2] }
  | _ => none }
def specWiderRow : OpenClaim := { program := "ytmobillfeldcjaadoor", sum := "19cc2a5403d2579dbcc2478c0681856c3066e3fa344e08ae076c9cb083e9f632", func := "groat/groatlaw11.SpecWider", spec := "specWider", named := ["groat/class.kindsOf"], apart := false, laid := [("groat/class.kindsOf", laid_groat_class_kindsOf)] }
def SpecWiderSaid : Prop := specWiderRow.holds Tryd.pinned (OpenSpec.ofChange specWiderSpec)

/-- ITS FALSE NEIGHBOUR: 'it returns false'. Refute it at one input. -/
def specWiderWrong : ChangeSpec := { name := "specWider", fn := fun _ => fun
  | [d1, d2] => { results := [.lit (.bool false)], args := [d1, d2] }
  | _ => none }
def SpecWiderWrongFalsely : Prop := specWiderRow.holds Tryd.pinned (OpenSpec.ofChange specWiderWrong)

/-- 'groatlaw11.SpecKeeps': WHATEVER THE INPUT: true; the input reads as it did. -/
def specKeepsSpec : ChangeSpec := { name := "specKeeps", fn := fun _ => fun
  | [d1, d2, d3] => { results := [.lit (.bool true)], args := [d1, d2, d3] }
  | _ => none }
def specKeepsRow : OpenClaim := { program := "ytmobillfeldcjaadoor", sum := "19cc2a5403d2579dbcc2478c0681856c3066e3fa344e08ae076c9cb083e9f632", func := "groat/groatlaw11.SpecKeeps", spec := "specKeeps", named := ["groat/class.kindsOf"], apart := false, laid := [("groat/class.kindsOf", laid_groat_class_kindsOf)] }
def SpecKeepsSaid : Prop := specKeepsRow.holds Tryd.pinned (OpenSpec.ofChange specKeepsSpec)

/-- ITS FALSE NEIGHBOUR: 'it returns false'. Refute it at one input. -/
def specKeepsWrong : ChangeSpec := { name := "specKeeps", fn := fun _ => fun
  | [d1, d2, d3] => { results := [.lit (.bool false)], args := [d1, d2, d3] }
  | _ => none }
def SpecKeepsWrongFalsely : Prop := specKeepsRow.holds Tryd.pinned (OpenSpec.ofChange specKeepsWrong)

/- THE SECOND FORM. 'bulk': how many values and letters a reading holds, each counted each time it is reached (what is shared counts as often as it is met; a slice's spare places count too). A statement '..UptoSaid' is the law's where the arguments, and the package variables that the reading takes, are together of bulk at most 1048576: NARROWER than '..Said'. Prove '..Said' where nothing that the law and all that it calls make is longer than what came in: it says more and counts as full. Else prove '..UptoSaid'. A law counts once. -/
mutual
def uptoBulk {H : Type} : DataW H → Nat
  | .lit (.string bytes) => bytes.length + 1
  | .lit _ => 1
  | .nil => 1
  | .ptr d => uptoBulk d + 1
  | .slice elems spare => uptoBulkAll elems + uptoBulkAll spare + 1
  | .agg parts => uptoBulkAll parts + 1
  | .iface _ d => uptoBulk d + 1
  | .map entries => uptoBulkEntries entries + 1
  | .held _ => 1
def uptoBulkAll {H : Type} : List (DataW H) → Nat
  | [] => 0
  | d :: r => uptoBulk d + uptoBulkAll r
def uptoBulkEntries {H : Type} : List (Lit × DataW H) → Nat
  | [] => 0
  | x :: r => uptoBulkEntry x + uptoBulkEntries r
def uptoBulkEntry {H : Type} : Lit × DataW H → Nat
  | (.string bytes, d) => bytes.length + uptoBulk d + 1
  | (_, d) => uptoBulk d + 1
 end
def uptoSmall : (H : Type) → List (DataW H) → Bool := fun _ ds => decide (uptoBulkAll ds ≤ 1048576)
def OpenSpec.upto (s : _root_.Go.ChangeSpec) : _root_.Go.OpenSpec := { _root_.Go.OpenSpec.ofChange s with cond := some uptoSmall }

/-- 'groatlaw11.SpecChecks', WHERE WHAT IT READS IS OF BULK AT MOST 1048576: true; the input reads as it did. -/
def specChecksUptoRow : OpenClaim := { program := "ytmobillfeldcjaadoor", sum := "19cc2a5403d2579dbcc2478c0681856c3066e3fa344e08ae076c9cb083e9f632", func := "groat/groatlaw11.SpecChecks", spec := "specChecks", named := ["groat/class.kindsOf"], apart := false, laid := [("groat/class.kindsOf", laid_groat_class_kindsOf)], narrowed := true }
def SpecChecksUptoSaid : Prop := specChecksUptoRow.holds Tryd.pinned (OpenSpec.upto specChecksSpec)

/-- 'groatlaw11.SpecValues', WHERE WHAT IT READS IS OF BULK AT MOST 1048576: true; the input reads as it did. -/
def specValuesUptoRow : OpenClaim := { program := "ytmobillfeldcjaadoor", sum := "19cc2a5403d2579dbcc2478c0681856c3066e3fa344e08ae076c9cb083e9f632", func := "groat/groatlaw11.SpecValues", spec := "specValues", named := ["groat/class.kindsOf"], apart := false, laid := [("groat/class.kindsOf", laid_groat_class_kindsOf)], narrowed := true }
def SpecValuesUptoSaid : Prop := specValuesUptoRow.holds Tryd.pinned (OpenSpec.upto specValuesSpec)

/-- 'groatlaw11.SpecBounds', WHERE WHAT IT READS IS OF BULK AT MOST 1048576: true; the input reads as it did. -/
def specBoundsUptoRow : OpenClaim := { program := "ytmobillfeldcjaadoor", sum := "19cc2a5403d2579dbcc2478c0681856c3066e3fa344e08ae076c9cb083e9f632", func := "groat/groatlaw11.SpecBounds", spec := "specBounds", named := ["groat/class.kindsOf"], apart := false, laid := [("groat/class.kindsOf", laid_groat_class_kindsOf)], narrowed := true }
def SpecBoundsUptoSaid : Prop := specBoundsUptoRow.holds Tryd.pinned (OpenSpec.upto specBoundsSpec)

/-- 'groatlaw11.SpecWider', WHERE WHAT IT READS IS OF BULK AT MOST 1048576: true; the input reads as it did. -/
def specWiderUptoRow : OpenClaim := { program := "ytmobillfeldcjaadoor", sum := "19cc2a5403d2579dbcc2478c0681856c3066e3fa344e08ae076c9cb083e9f632", func := "groat/groatlaw11.SpecWider", spec := "specWider", named := ["groat/class.kindsOf"], apart := false, laid := [("groat/class.kindsOf", laid_groat_class_kindsOf)], narrowed := true }
def SpecWiderUptoSaid : Prop := specWiderUptoRow.holds Tryd.pinned (OpenSpec.upto specWiderSpec)

/-- 'groatlaw11.SpecKeeps', WHERE WHAT IT READS IS OF BULK AT MOST 1048576: true; the input reads as it did. -/
def specKeepsUptoRow : OpenClaim := { program := "ytmobillfeldcjaadoor", sum := "19cc2a5403d2579dbcc2478c0681856c3066e3fa344e08ae076c9cb083e9f632", func := "groat/groatlaw11.SpecKeeps", spec := "specKeeps", named := ["groat/class.kindsOf"], apart := false, laid := [("groat/class.kindsOf", laid_groat_class_kindsOf)], narrowed := true }
def SpecKeepsUptoSaid : Prop := specKeepsUptoRow.holds Tryd.pinned (OpenSpec.upto specKeepsSpec)

end Rows
end Go.Proofs.YtmobillfeldcjaaDoor
