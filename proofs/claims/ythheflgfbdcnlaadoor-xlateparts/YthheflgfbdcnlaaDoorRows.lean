/-
  NARROWER THAN 'FOR EVERY INPUT', by the rows' own cells (each row's printed sentence says how): XlateValid: laid · XlateParts: laid.
  DERIVED. THE GIVEN ROWS OF THIS SEAT. 2 by the template 'for every input the law returns true; each argument reads behind the call as it read before'; 0 by the template 'total and deterministic' (their statements: YthheflgfbdcnlaaDoorTotals.lean).
  GIVEN WITH THE SEED: the statements are not yours to turn. If you find one false, say at which input.
  Laid BY PROGRAM, IN A SANDBOX (cutbox-rows.mjs): the forced cells as the released guide's own fill.sh prints them over the translation 1aecb00c5e2a64a5… (all of the seat's roots in one cut). By AI agents, Wed Nov 11 2026. No macro, syntax, notation, axiom, sorry.
-/
import Derived.Test.YthheflgfbdcnlaaDoorChecked
import GoSem.Claim
import GoSem.ClaimJoined
import GoSem.ClaimMapViews
import Derived.JoinedTies
import Derived.KernelRfl
namespace Go.Proofs.YthheflgfbdcnlaaDoor
/- THE CELL 'sum', in the pinned program and in every row, IS THE sha256 OF THE DUMP (.gsa) THAT YthheflgfbdcnlaaDoorProg.lean LOADS. Nothing in Lean hashes anything: it is a label: what it is worth is what the hold of that sum in a sandbox is worth. -/
noncomputable def Tryd.pinned : Pinned := { name := "ythheflgfbdcnlaadoor", sum := "1aecb00c5e2a64a592e310b59983fac4951da54a9a98c7358f6923fb91f389c4", checked := Tryd.checked }
namespace Rows
def none {H : Type} : Left H := { results := [], args := [] }

/- WHAT THE LISTED PACKAGE-LEVEL VARIABLES READ AS WHEN THE CALL BEGINS. Each datum BY PROGRAM (the guide's laid-datum.mjs) off the statement by which the dump's own 'gosem.cut.vars' lays the variable. In a bare row this is a premise. The card (YthheflgfbdcnlaaDoorCards.lean) ties it to the program's text. -/
def laid_groat_class_kindsOf {H : Type} : DataW H := .agg [.lit (.int .i64 0), .lit (.int .i64 1), .lit (.int .i64 2), .lit (.int .i64 3), .lit (.int .i64 7), .lit (.int .i64 15), .lit (.int .i64 15)]

/-- 'groatlaw21.XlateValid': WHATEVER THE INPUT: true; the input reads as it did. -/
def xlateValidSpec : ChangeSpec := { name := "xlateValid", fn := fun _ => fun
  | [d1, d2, d3] => { results := [.lit (.bool true)], args := [d1, d2, d3] }
  | _ => none }
def xlateValidRow : OpenClaim := { program := "ythheflgfbdcnlaadoor", sum := "1aecb00c5e2a64a592e310b59983fac4951da54a9a98c7358f6923fb91f389c4", func := "groat/groatlaw21.XlateValid", spec := "xlateValid", inPlace := ["internal/abi.NoEscape", "internal/bytealg.MakeNoZero"], named := ["groat/class.kindsOf"], apart := false, laid := [("groat/class.kindsOf", laid_groat_class_kindsOf)] }
def XlateValidSaid : Prop := xlateValidRow.holds Tryd.pinned (OpenSpec.ofChange xlateValidSpec)

/-- ITS FALSE NEIGHBOUR: 'it returns false'. Refute it at one input. -/
def xlateValidWrong : ChangeSpec := { name := "xlateValid", fn := fun _ => fun
  | [d1, d2, d3] => { results := [.lit (.bool false)], args := [d1, d2, d3] }
  | _ => none }
def XlateValidWrongFalsely : Prop := xlateValidRow.holds Tryd.pinned (OpenSpec.ofChange xlateValidWrong)

/-- 'groatlaw21.XlateParts': WHATEVER THE INPUT: true; the input reads as it did. -/
def xlatePartsSpec : ChangeSpec := { name := "xlateParts", fn := fun _ => fun
  | [d1, d2, d3] => { results := [.lit (.bool true)], args := [d1, d2, d3] }
  | _ => none }
def xlatePartsRow : OpenClaim := { program := "ythheflgfbdcnlaadoor", sum := "1aecb00c5e2a64a592e310b59983fac4951da54a9a98c7358f6923fb91f389c4", func := "groat/groatlaw21.XlateParts", spec := "xlateParts", inPlace := ["internal/abi.NoEscape", "internal/bytealg.MakeNoZero"], named := ["groat/class.kindsOf"], apart := false, laid := [("groat/class.kindsOf", laid_groat_class_kindsOf)] }
def XlatePartsSaid : Prop := xlatePartsRow.holds Tryd.pinned (OpenSpec.ofChange xlatePartsSpec)

/-- ITS FALSE NEIGHBOUR: 'it returns false'. Refute it at one input. -/
def xlatePartsWrong : ChangeSpec := { name := "xlateParts", fn := fun _ => fun
  | [d1, d2, d3] => { results := [.lit (.bool false)], args := [d1, d2, d3] }
  | _ => none }
def XlatePartsWrongFalsely : Prop := xlatePartsRow.holds Tryd.pinned (OpenSpec.ofChange xlatePartsWrong)

/- THE SECOND FORM. 'bulk': how many values and letters a reading holds, each counted each time it is reached (what is shared counts as often as it is met; a slice's spare places count too). A statement '..UptoSaid' is the law's where the arguments, and the package variables that the reading takes, are together of bulk at most 1048576: NARROWER than '..Said'. Prove '..Said' where nothing that the law and all that it calls make is longer than what came in: it says more and counts as full. Else prove '..UptoSaid'. A law counts once. -/
mutual
def uptoBulk {H : Type} : DataW H → Nat
  | .lit (.string bytes) => bytes.length + 1
  | .lit _ => 1
  | .nil => 1
  | .ptr d => uptoBulk d + 1
  | .slice elems spare => uptoBulkAll elems + uptoBulkAll spare + 1
  | .agg parts => uptoBulkAll parts + 1
  | .iface _ d => uptoBulk d + 1
  | .map entries => uptoBulkEntries entries + 1
  | .held _ => 1
def uptoBulkAll {H : Type} : List (DataW H) → Nat
  | [] => 0
  | d :: r => uptoBulk d + uptoBulkAll r
def uptoBulkEntries {H : Type} : List (Lit × DataW H) → Nat
  | [] => 0
  | x :: r => uptoBulkEntry x + uptoBulkEntries r
def uptoBulkEntry {H : Type} : Lit × DataW H → Nat
  | (.string bytes, d) => bytes.length + uptoBulk d + 1
  | (_, d) => uptoBulk d + 1
 end
def uptoSmall : (H : Type) → List (DataW H) → Bool := fun _ ds => decide (uptoBulkAll ds ≤ 1048576)
def OpenSpec.upto (s : _root_.Go.ChangeSpec) : _root_.Go.OpenSpec := { _root_.Go.OpenSpec.ofChange s with cond := some uptoSmall }

/-- 'groatlaw21.XlateValid', WHERE WHAT IT READS IS OF BULK AT MOST 1048576: true; the input reads as it did. -/
def xlateValidUptoRow : OpenClaim := { program := "ythheflgfbdcnlaadoor", sum := "1aecb00c5e2a64a592e310b59983fac4951da54a9a98c7358f6923fb91f389c4", func := "groat/groatlaw21.XlateValid", spec := "xlateValid", inPlace := ["internal/abi.NoEscape", "internal/bytealg.MakeNoZero"], named := ["groat/class.kindsOf"], apart := false, laid := [("groat/class.kindsOf", laid_groat_class_kindsOf)], narrowed := true }
def XlateValidUptoSaid : Prop := xlateValidUptoRow.holds Tryd.pinned (OpenSpec.upto xlateValidSpec)

/-- 'groatlaw21.XlateParts', WHERE WHAT IT READS IS OF BULK AT MOST 1048576: true; the input reads as it did. -/
def xlatePartsUptoRow : OpenClaim := { program := "ythheflgfbdcnlaadoor", sum := "1aecb00c5e2a64a592e310b59983fac4951da54a9a98c7358f6923fb91f389c4", func := "groat/groatlaw21.XlateParts", spec := "xlateParts", inPlace := ["internal/abi.NoEscape", "internal/bytealg.MakeNoZero"], named := ["groat/class.kindsOf"], apart := false, laid := [("groat/class.kindsOf", laid_groat_class_kindsOf)], narrowed := true }
def XlatePartsUptoSaid : Prop := xlatePartsUptoRow.holds Tryd.pinned (OpenSpec.upto xlatePartsSpec)

end Rows
end Go.Proofs.YthheflgfbdcnlaaDoor
