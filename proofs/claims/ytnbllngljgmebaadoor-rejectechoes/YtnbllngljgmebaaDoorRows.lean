/-
  NARROWER THAN 'FOR EVERY INPUT', by the rows' own cells (each row's printed sentence says how): RejectChecks: laid · RejectCodes: laid · RejectBuilds: laid · RejectValid: laid · RejectEchoes: laid.
  DERIVED. THE GIVEN ROWS OF THIS SEAT. 5 by the template 'for every input the law returns true; each argument reads behind the call as it read before'; 0 by the template 'total and deterministic' (their statements: YtnbllngljgmebaaDoorTotals.lean).
  GIVEN WITH THE SEED: the statements are not yours to turn. If you find one false, say at which input.
  Laid BY PROGRAM, IN A SANDBOX (cutbox-rows.mjs): the forced cells as the released guide's own fill.sh prints them over the translation f5033a92566e8c92… (all of the seat's roots in one cut). By AI agents, Wed Nov 11 2026. No macro, syntax, notation, axiom, sorry.
-/
import Derived.Test.YtnbllngljgmebaaDoorChecked
import GoSem.Claim
import GoSem.ClaimJoined
import GoSem.ClaimMapViews
import Derived.JoinedTies
import Derived.KernelRfl
namespace Go.Proofs.YtnbllngljgmebaaDoor
/- THE CELL 'sum', in the pinned program and in every row, IS THE sha256 OF THE DUMP (.gsa) THAT YtnbllngljgmebaaDoorProg.lean LOADS. Nothing in Lean hashes anything: it is a label: what it is worth is what the hold of that sum in a sandbox is worth. -/
noncomputable def Tryd.pinned : Pinned := { name := "ytnbllngljgmebaadoor", sum := "f5033a92566e8c9275d7c4e0eeed88aa61d6aaef32dcdf6040107612a6358c05", checked := Tryd.checked }
namespace Rows
def none {H : Type} : Left H := { results := [], args := [] }

/- WHAT THE LISTED PACKAGE-LEVEL VARIABLES READ AS WHEN THE CALL BEGINS. Each datum BY PROGRAM (the guide's laid-datum.mjs) off the statement by which the dump's own 'gosem.cut.vars' lays the variable. In a bare row this is a premise. The card (YtnbllngljgmebaaDoorCards.lean) ties it to the program's text. -/
def laid_groat_class_kindsOf {H : Type} : DataW H := .agg [.lit (.int .i64 0), .lit (.int .i64 1), .lit (.int .i64 2), .lit (.int .i64 3), .lit (.int .i64 7), .lit (.int .i64 15), .lit (.int .i64 15)]

/-- 'groatlaw23.RejectChecks': WHATEVER THE INPUT: true; the input reads as it did. -/
def rejectChecksSpec : ChangeSpec := { name := "rejectChecks", fn := fun _ => fun
  | [d] => { results := [.lit (.bool true)], args := [d] }
  | _ => none }
def rejectChecksRow : OpenClaim := { program := "ytnbllngljgmebaadoor", sum := "f5033a92566e8c9275d7c4e0eeed88aa61d6aaef32dcdf6040107612a6358c05", func := "groat/groatlaw23.RejectChecks", spec := "rejectChecks", unfollowed := true, recurses := true, named := ["groat/class.kindsOf"], apart := false, laid := [("groat/class.kindsOf", laid_groat_class_kindsOf)] }
def RejectChecksSaid : Prop := rejectChecksRow.holds Tryd.pinned (OpenSpec.ofChange rejectChecksSpec)

/-- ITS FALSE NEIGHBOUR: 'it returns false'. Refute it at one input. -/
def rejectChecksWrong : ChangeSpec := { name := "rejectChecks", fn := fun _ => fun
  | [d] => { results := [.lit (.bool false)], args := [d] }
  | _ => none }
def RejectChecksWrongFalsely : Prop := rejectChecksRow.holds Tryd.pinned (OpenSpec.ofChange rejectChecksWrong)

/-- 'groatlaw23.RejectCodes': WHATEVER THE INPUT: true; the input reads as it did. -/
def rejectCodesSpec : ChangeSpec := { name := "rejectCodes", fn := fun _ => fun
  | [d1, d2] => { results := [.lit (.bool true)], args := [d1, d2] }
  | _ => none }
def rejectCodesRow : OpenClaim := { program := "ytnbllngljgmebaadoor", sum := "f5033a92566e8c9275d7c4e0eeed88aa61d6aaef32dcdf6040107612a6358c05", func := "groat/groatlaw23.RejectCodes", spec := "rejectCodes", unfollowed := true, recurses := true, named := ["groat/class.kindsOf"], apart := false, laid := [("groat/class.kindsOf", laid_groat_class_kindsOf)] }
def RejectCodesSaid : Prop := rejectCodesRow.holds Tryd.pinned (OpenSpec.ofChange rejectCodesSpec)

/-- ITS FALSE NEIGHBOUR: 'it returns false'. Refute it at one input. -/
def rejectCodesWrong : ChangeSpec := { name := "rejectCodes", fn := fun _ => fun
  | [d1, d2] => { results := [.lit (.bool false)], args := [d1, d2] }
  | _ => none }
def RejectCodesWrongFalsely : Prop := rejectCodesRow.holds Tryd.pinned (OpenSpec.ofChange rejectCodesWrong)

/-- 'groatlaw23.RejectBuilds': WHATEVER THE INPUT: true; the input reads as it did. -/
def rejectBuildsSpec : ChangeSpec := { name := "rejectBuilds", fn := fun _ => fun
  | [d1, d2, d3] => { results := [.lit (.bool true)], args := [d1, d2, d3] }
  | _ => none }
def rejectBuildsRow : OpenClaim := { program := "ytnbllngljgmebaadoor", sum := "f5033a92566e8c9275d7c4e0eeed88aa61d6aaef32dcdf6040107612a6358c05", func := "groat/groatlaw23.RejectBuilds", spec := "rejectBuilds", unfollowed := true, recurses := true, named := ["groat/class.kindsOf"], apart := false, laid := [("groat/class.kindsOf", laid_groat_class_kindsOf)] }
def RejectBuildsSaid : Prop := rejectBuildsRow.holds Tryd.pinned (OpenSpec.ofChange rejectBuildsSpec)

/-- ITS FALSE NEIGHBOUR: 'it returns false'. Refute it at one input. -/
def rejectBuildsWrong : ChangeSpec := { name := "rejectBuilds", fn := fun _ => fun
  | [d1, d2, d3] => { results := [.lit (.bool false)], args := [d1, d2, d3] }
  | _ => none }
def RejectBuildsWrongFalsely : Prop := rejectBuildsRow.holds Tryd.pinned (OpenSpec.ofChange rejectBuildsWrong)

/-- 'groatlaw23.RejectValid': WHATEVER THE INPUT: true; the input reads as it did. -/
def rejectValidSpec : ChangeSpec := { name := "rejectValid", fn := fun _ => fun
  | [d1, d2, d3] => { results := [.lit (.bool true)], args := [d1, d2, d3] }
  | _ => none }
def rejectValidRow : OpenClaim := { program := "ytnbllngljgmebaadoor", sum := "f5033a92566e8c9275d7c4e0eeed88aa61d6aaef32dcdf6040107612a6358c05", func := "groat/groatlaw23.RejectValid", spec := "rejectValid", unfollowed := true, recurses := true, named := ["groat/class.kindsOf"], apart := false, laid := [("groat/class.kindsOf", laid_groat_class_kindsOf)] }
def RejectValidSaid : Prop := rejectValidRow.holds Tryd.pinned (OpenSpec.ofChange rejectValidSpec)

/-- ITS FALSE NEIGHBOUR: 'it returns false'. Refute it at one input. -/
def rejectValidWrong : ChangeSpec := { name := "rejectValid", fn := fun _ => fun
  | [d1, d2, d3] => { results := [.lit (.bool false)], args := [d1, d2, d3] }
  | _ => none }
def RejectValidWrongFalsely : Prop := rejectValidRow.holds Tryd.pinned (OpenSpec.ofChange rejectValidWrong)

/-- 'groatlaw23.RejectEchoes': WHATEVER THE INPUT: true; the input reads as it did. -/
def rejectEchoesSpec : ChangeSpec := { name := "rejectEchoes", fn := fun _ => fun
  | [d1, d2, d3] => { results := [.lit (.bool true)], args := [d1, d2, d3] }
  | _ => none }
def rejectEchoesRow : OpenClaim := { program := "ytnbllngljgmebaadoor", sum := "f5033a92566e8c9275d7c4e0eeed88aa61d6aaef32dcdf6040107612a6358c05", func := "groat/groatlaw23.RejectEchoes", spec := "rejectEchoes", unfollowed := true, recurses := true, named := ["groat/class.kindsOf"], apart := false, laid := [("groat/class.kindsOf", laid_groat_class_kindsOf)] }
def RejectEchoesSaid : Prop := rejectEchoesRow.holds Tryd.pinned (OpenSpec.ofChange rejectEchoesSpec)

/-- ITS FALSE NEIGHBOUR: 'it returns false'. Refute it at one input. -/
def rejectEchoesWrong : ChangeSpec := { name := "rejectEchoes", fn := fun _ => fun
  | [d1, d2, d3] => { results := [.lit (.bool false)], args := [d1, d2, d3] }
  | _ => none }
def RejectEchoesWrongFalsely : Prop := rejectEchoesRow.holds Tryd.pinned (OpenSpec.ofChange rejectEchoesWrong)

/- THE SECOND FORM. 'bulk': how many values and letters a reading holds, each counted each time it is reached (what is shared counts as often as it is met; a slice's spare places count too). A statement '..UptoSaid' is the law's where the arguments, and the package variables that the reading takes, are together of bulk at most 1048576: NARROWER than '..Said'. Prove '..Said' where nothing that the law and all that it calls make is longer than what came in: it says more and counts as full. Else prove '..UptoSaid'. A law counts once. -/
mutual
def uptoBulk {H : Type} : DataW H → Nat
  | .lit (.string bytes) => bytes.length + 1
  | .lit _ => 1
  | .nil => 1
  | .ptr d => uptoBulk d + 1
  | .slice elems spare => uptoBulkAll elems + uptoBulkAll spare + 1
  | .agg parts => uptoBulkAll parts + 1
  | .iface _ d => uptoBulk d + 1
  | .map entries => uptoBulkEntries entries + 1
  | .held _ => 1
def uptoBulkAll {H : Type} : List (DataW H) → Nat
  | [] => 0
  | d :: r => uptoBulk d + uptoBulkAll r
def uptoBulkEntries {H : Type} : List (Lit × DataW H) → Nat
  | [] => 0
  | x :: r => uptoBulkEntry x + uptoBulkEntries r
def uptoBulkEntry {H : Type} : Lit × DataW H → Nat
  | (.string bytes, d) => bytes.length + uptoBulk d + 1
  | (_, d) => uptoBulk d + 1
 end
def uptoSmall : (H : Type) → List (DataW H) → Bool := fun _ ds => decide (uptoBulkAll ds ≤ 1048576)
def OpenSpec.upto (s : _root_.Go.ChangeSpec) : _root_.Go.OpenSpec := { _root_.Go.OpenSpec.ofChange s with cond := some uptoSmall }

/-- 'groatlaw23.RejectChecks', WHERE WHAT IT READS IS OF BULK AT MOST 1048576: true; the input reads as it did. -/
def rejectChecksUptoRow : OpenClaim := { program := "ytnbllngljgmebaadoor", sum := "f5033a92566e8c9275d7c4e0eeed88aa61d6aaef32dcdf6040107612a6358c05", func := "groat/groatlaw23.RejectChecks", spec := "rejectChecks", unfollowed := true, recurses := true, named := ["groat/class.kindsOf"], apart := false, laid := [("groat/class.kindsOf", laid_groat_class_kindsOf)], narrowed := true }
def RejectChecksUptoSaid : Prop := rejectChecksUptoRow.holds Tryd.pinned (OpenSpec.upto rejectChecksSpec)

/-- 'groatlaw23.RejectCodes', WHERE WHAT IT READS IS OF BULK AT MOST 1048576: true; the input reads as it did. -/
def rejectCodesUptoRow : OpenClaim := { program := "ytnbllngljgmebaadoor", sum := "f5033a92566e8c9275d7c4e0eeed88aa61d6aaef32dcdf6040107612a6358c05", func := "groat/groatlaw23.RejectCodes", spec := "rejectCodes", unfollowed := true, recurses := true, named := ["groat/class.kindsOf"], apart := false, laid := [("groat/class.kindsOf", laid_groat_class_kindsOf)], narrowed := true }
def RejectCodesUptoSaid : Prop := rejectCodesUptoRow.holds Tryd.pinned (OpenSpec.upto rejectCodesSpec)

/-- 'groatlaw23.RejectBuilds', WHERE WHAT IT READS IS OF BULK AT MOST 1048576: true; the input reads as it did. -/
def rejectBuildsUptoRow : OpenClaim := { program := "ytnbllngljgmebaadoor", sum := "f5033a92566e8c9275d7c4e0eeed88aa61d6aaef32dcdf6040107612a6358c05", func := "groat/groatlaw23.RejectBuilds", spec := "rejectBuilds", unfollowed := true, recurses := true, named := ["groat/class.kindsOf"], apart := false, laid := [("groat/class.kindsOf", laid_groat_class_kindsOf)], narrowed := true }
def RejectBuildsUptoSaid : Prop := rejectBuildsUptoRow.holds Tryd.pinned (OpenSpec.upto rejectBuildsSpec)

/-- 'groatlaw23.RejectValid', WHERE WHAT IT READS IS OF BULK AT MOST 1048576: true; the input reads as it did. -/
def rejectValidUptoRow : OpenClaim := { program := "ytnbllngljgmebaadoor", sum := "f5033a92566e8c9275d7c4e0eeed88aa61d6aaef32dcdf6040107612a6358c05", func := "groat/groatlaw23.RejectValid", spec := "rejectValid", unfollowed := true, recurses := true, named := ["groat/class.kindsOf"], apart := false, laid := [("groat/class.kindsOf", laid_groat_class_kindsOf)], narrowed := true }
def RejectValidUptoSaid : Prop := rejectValidUptoRow.holds Tryd.pinned (OpenSpec.upto rejectValidSpec)

/-- 'groatlaw23.RejectEchoes', WHERE WHAT IT READS IS OF BULK AT MOST 1048576: true; the input reads as it did. -/
def rejectEchoesUptoRow : OpenClaim := { program := "ytnbllngljgmebaadoor", sum := "f5033a92566e8c9275d7c4e0eeed88aa61d6aaef32dcdf6040107612a6358c05", func := "groat/groatlaw23.RejectEchoes", spec := "rejectEchoes", unfollowed := true, recurses := true, named := ["groat/class.kindsOf"], apart := false, laid := [("groat/class.kindsOf", laid_groat_class_kindsOf)], narrowed := true }
def RejectEchoesUptoSaid : Prop := rejectEchoesUptoRow.holds Tryd.pinned (OpenSpec.upto rejectEchoesSpec)

end Rows
end Go.Proofs.YtnbllngljgmebaaDoor
