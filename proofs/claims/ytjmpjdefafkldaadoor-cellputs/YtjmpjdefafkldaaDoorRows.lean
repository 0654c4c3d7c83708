/-
  NARROWER THAN 'FOR EVERY INPUT', by the rows' own cells (each row's printed sentence says how): CellPuts: laid · CellGets: laid · CellBack: laid · CellOne: laid · CellParts: laid.
  DERIVED. THE GIVEN ROWS OF THIS SEAT. 5 by the template 'for every input the law returns true; each argument reads behind the call as it read before'; 0 by the template 'total and deterministic' (their statements: YtjmpjdefafkldaaDoorTotals.lean).
  GIVEN WITH THE SEED: the statements are not yours to turn. If you find one false, say at which input.
  Laid BY PROGRAM, IN A SANDBOX (cutbox-rows.mjs): the forced cells as the released guide's own fill.sh prints them over the translation d0bc6e56f7ae66f9… (all of the seat's roots in one cut). By AI agents, Wed Nov 11 2026. No macro, syntax, notation, axiom, sorry.
-/
import Derived.Test.YtjmpjdefafkldaaDoorChecked
import GoSem.Claim
import GoSem.ClaimJoined
import GoSem.ClaimMapViews
import Derived.JoinedTies
import Derived.KernelRfl
namespace Go.Proofs.YtjmpjdefafkldaaDoor
/- THE CELL 'sum', in the pinned program and in every row, IS THE sha256 OF THE DUMP (.gsa) THAT YtjmpjdefafkldaaDoorProg.lean LOADS. Nothing in Lean hashes anything: it is a label: what it is worth is what the hold of that sum in a sandbox is worth. -/
noncomputable def Tryd.pinned : Pinned := { name := "ytjmpjdefafkldaadoor", sum := "d0bc6e56f7ae66f99bfcb4518d3243fe974da2967ee85fbf529fea6107494909", checked := Tryd.checked }
namespace Rows
def none {H : Type} : Left H := { results := [], args := [] }

/- WHAT THE LISTED PACKAGE-LEVEL VARIABLES READ AS WHEN THE CALL BEGINS. Each datum BY PROGRAM (the guide's laid-datum.mjs) off the statement by which the dump's own 'gosem.cut.vars' lays the variable. In a bare row this is a premise. The card (YtjmpjdefafkldaaDoorCards.lean) ties it to the program's text. -/
def laid_groat_class_kindsOf {H : Type} : DataW H := .agg [.lit (.int .i64 0), .lit (.int .i64 1), .lit (.int .i64 2), .lit (.int .i64 3), .lit (.int .i64 7), .lit (.int .i64 15), .lit (.int .i64 15)]

/-- 'groatlaw12.CellPuts': WHATEVER THE INPUT: true; the input reads as it did. -/
def cellPutsSpec : ChangeSpec := { name := "cellPuts", fn := fun _ => fun
  | [d1, d2, d3] => { results := [.lit (.bool true)], args := [d1, d2, d3] }
  | _ => none }
def cellPutsRow : OpenClaim := { program := "ytjmpjdefafkldaadoor", sum := "d0bc6e56f7ae66f99bfcb4518d3243fe974da2967ee85fbf529fea6107494909", func := "groat/groatlaw12.CellPuts", spec := "cellPuts", named := ["groat/class.kindsOf"], apart := false, laid := [("groat/class.kindsOf", laid_groat_class_kindsOf)] }
def CellPutsSaid : Prop := cellPutsRow.holds Tryd.pinned (OpenSpec.ofChange cellPutsSpec)

/-- ITS FALSE NEIGHBOUR: 'it returns false'. Refute it at one input. -/
def cellPutsWrong : ChangeSpec := { name := "cellPuts", fn := fun _ => fun
  | [d1, d2, d3] => { results := [.lit (.bool false)], args := [d1, d2, d3] }
  | _ => none }
def CellPutsWrongFalsely : Prop := cellPutsRow.holds Tryd.pinned (OpenSpec.ofChange cellPutsWrong)

/-- 'groatlaw12.CellGets': WHATEVER THE INPUT: true; the input reads as it did. -/
def cellGetsSpec : ChangeSpec := { name := "cellGets", fn := fun _ => fun
  | [d1, d2, d3] => { results := [.lit (.bool true)], args := [d1, d2, d3] }
  | _ => none }
def cellGetsRow : OpenClaim := { program := "ytjmpjdefafkldaadoor", sum := "d0bc6e56f7ae66f99bfcb4518d3243fe974da2967ee85fbf529fea6107494909", func := "groat/groatlaw12.CellGets", spec := "cellGets", named := ["groat/class.kindsOf"], apart := false, laid := [("groat/class.kindsOf", laid_groat_class_kindsOf)] }
def CellGetsSaid : Prop := cellGetsRow.holds Tryd.pinned (OpenSpec.ofChange cellGetsSpec)

/-- ITS FALSE NEIGHBOUR: 'it returns false'. Refute it at one input. -/
def cellGetsWrong : ChangeSpec := { name := "cellGets", fn := fun _ => fun
  | [d1, d2, d3] => { results := [.lit (.bool false)], args := [d1, d2, d3] }
  | _ => none }
def CellGetsWrongFalsely : Prop := cellGetsRow.holds Tryd.pinned (OpenSpec.ofChange cellGetsWrong)

/-- 'groatlaw12.CellBack': WHATEVER THE INPUT: true; the input reads as it did. -/
def cellBackSpec : ChangeSpec := { name := "cellBack", fn := fun _ => fun
  | [d1, d2, d3] => { results := [.lit (.bool true)], args := [d1, d2, d3] }
  | _ => none }
def cellBackRow : OpenClaim := { program := "ytjmpjdefafkldaadoor", sum := "d0bc6e56f7ae66f99bfcb4518d3243fe974da2967ee85fbf529fea6107494909", func := "groat/groatlaw12.CellBack", spec := "cellBack", named := ["groat/class.kindsOf"], apart := false, laid := [("groat/class.kindsOf", laid_groat_class_kindsOf)] }
def CellBackSaid : Prop := cellBackRow.holds Tryd.pinned (OpenSpec.ofChange cellBackSpec)

/-- ITS FALSE NEIGHBOUR: 'it returns false'. Refute it at one input. -/
def cellBackWrong : ChangeSpec := { name := "cellBack", fn := fun _ => fun
  | [d1, d2, d3] => { results := [.lit (.bool false)], args := [d1, d2, d3] }
  | _ => none }
def CellBackWrongFalsely : Prop := cellBackRow.holds Tryd.pinned (OpenSpec.ofChange cellBackWrong)

/-- 'groatlaw12.CellOne': WHATEVER THE INPUT: true; the input reads as it did. -/
def cellOneSpec : ChangeSpec := { name := "cellOne", fn := fun _ => fun
  | [d1, d2, d3] => { results := [.lit (.bool true)], args := [d1, d2, d3] }
  | _ => none }
def cellOneRow : OpenClaim := { program := "ytjmpjdefafkldaadoor", sum := "d0bc6e56f7ae66f99bfcb4518d3243fe974da2967ee85fbf529fea6107494909", func := "groat/groatlaw12.CellOne", spec := "cellOne", named := ["groat/class.kindsOf"], apart := false, laid := [("groat/class.kindsOf", laid_groat_class_kindsOf)] }
def CellOneSaid : Prop := cellOneRow.holds Tryd.pinned (OpenSpec.ofChange cellOneSpec)

/-- ITS FALSE NEIGHBOUR: 'it returns false'. Refute it at one input. -/
def cellOneWrong : ChangeSpec := { name := "cellOne", fn := fun _ => fun
  | [d1, d2, d3] => { results := [.lit (.bool false)], args := [d1, d2, d3] }
  | _ => none }
def CellOneWrongFalsely : Prop := cellOneRow.holds Tryd.pinned (OpenSpec.ofChange cellOneWrong)

/-- 'groatlaw12.CellParts': WHATEVER THE INPUT: true; the input reads as it did. -/
def cellPartsSpec : ChangeSpec := { name := "cellParts", fn := fun _ => fun
  | [d1, d2, d3] => { results := [.lit (.bool true)], args := [d1, d2, d3] }
  | _ => none }
def cellPartsRow : OpenClaim := { program := "ytjmpjdefafkldaadoor", sum := "d0bc6e56f7ae66f99bfcb4518d3243fe974da2967ee85fbf529fea6107494909", func := "groat/groatlaw12.CellParts", spec := "cellParts", named := ["groat/class.kindsOf"], apart := false, laid := [("groat/class.kindsOf", laid_groat_class_kindsOf)] }
def CellPartsSaid : Prop := cellPartsRow.holds Tryd.pinned (OpenSpec.ofChange cellPartsSpec)

/-- ITS FALSE NEIGHBOUR: 'it returns false'. Refute it at one input. -/
def cellPartsWrong : ChangeSpec := { name := "cellParts", fn := fun _ => fun
  | [d1, d2, d3] => { results := [.lit (.bool false)], args := [d1, d2, d3] }
  | _ => none }
def CellPartsWrongFalsely : Prop := cellPartsRow.holds Tryd.pinned (OpenSpec.ofChange cellPartsWrong)

/- THE SECOND FORM. 'bulk': how many values and letters a reading holds, each counted each time it is reached (what is shared counts as often as it is met; a slice's spare places count too). A statement '..UptoSaid' is the law's where the arguments, and the package variables that the reading takes, are together of bulk at most 1048576: NARROWER than '..Said'. Prove '..Said' where nothing that the law and all that it calls make is longer than what came in: it says more and counts as full. Else prove '..UptoSaid'. A law counts once. -/
mutual
def uptoBulk {H : Type} : DataW H → Nat
  | .lit (.string bytes) => bytes.length + 1
  | .lit _ => 1
  | .nil => 1
  | .ptr d => uptoBulk d + 1
  | .slice elems spare => uptoBulkAll elems + uptoBulkAll spare + 1
  | .agg parts => uptoBulkAll parts + 1
  | .iface _ d => uptoBulk d + 1
  | .map entries => uptoBulkEntries entries + 1
  | .held _ => 1
def uptoBulkAll {H : Type} : List (DataW H) → Nat
  | [] => 0
  | d :: r => uptoBulk d + uptoBulkAll r
def uptoBulkEntries {H : Type} : List (Lit × DataW H) → Nat
  | [] => 0
  | x :: r => uptoBulkEntry x + uptoBulkEntries r
def uptoBulkEntry {H : Type} : Lit × DataW H → Nat
  | (.string bytes, d) => bytes.length + uptoBulk d + 1
  | (_, d) => uptoBulk d + 1
 end
def uptoSmall : (H : Type) → List (DataW H) → Bool := fun _ ds => decide (uptoBulkAll ds ≤ 1048576)
def OpenSpec.upto (s : _root_.Go.ChangeSpec) : _root_.Go.OpenSpec := { _root_.Go.OpenSpec.ofChange s with cond := some uptoSmall }

/-- 'groatlaw12.CellPuts', WHERE WHAT IT READS IS OF BULK AT MOST 1048576: true; the input reads as it did. -/
def cellPutsUptoRow : OpenClaim := { program := "ytjmpjdefafkldaadoor", sum := "d0bc6e56f7ae66f99bfcb4518d3243fe974da2967ee85fbf529fea6107494909", func := "groat/groatlaw12.CellPuts", spec := "cellPuts", named := ["groat/class.kindsOf"], apart := false, laid := [("groat/class.kindsOf", laid_groat_class_kindsOf)], narrowed := true }
def CellPutsUptoSaid : Prop := cellPutsUptoRow.holds Tryd.pinned (OpenSpec.upto cellPutsSpec)

/-- 'groatlaw12.CellGets', WHERE WHAT IT READS IS OF BULK AT MOST 1048576: true; the input reads as it did. -/
def cellGetsUptoRow : OpenClaim := { program := "ytjmpjdefafkldaadoor", sum := "d0bc6e56f7ae66f99bfcb4518d3243fe974da2967ee85fbf529fea6107494909", func := "groat/groatlaw12.CellGets", spec := "cellGets", named := ["groat/class.kindsOf"], apart := false, laid := [("groat/class.kindsOf", laid_groat_class_kindsOf)], narrowed := true }
def CellGetsUptoSaid : Prop := cellGetsUptoRow.holds Tryd.pinned (OpenSpec.upto cellGetsSpec)

/-- 'groatlaw12.CellBack', WHERE WHAT IT READS IS OF BULK AT MOST 1048576: true; the input reads as it did. -/
def cellBackUptoRow : OpenClaim := { program := "ytjmpjdefafkldaadoor", sum := "d0bc6e56f7ae66f99bfcb4518d3243fe974da2967ee85fbf529fea6107494909", func := "groat/groatlaw12.CellBack", spec := "cellBack", named := ["groat/class.kindsOf"], apart := false, laid := [("groat/class.kindsOf", laid_groat_class_kindsOf)], narrowed := true }
def CellBackUptoSaid : Prop := cellBackUptoRow.holds Tryd.pinned (OpenSpec.upto cellBackSpec)

/-- 'groatlaw12.CellOne', WHERE WHAT IT READS IS OF BULK AT MOST 1048576: true; the input reads as it did. -/
def cellOneUptoRow : OpenClaim := { program := "ytjmpjdefafkldaadoor", sum := "d0bc6e56f7ae66f99bfcb4518d3243fe974da2967ee85fbf529fea6107494909", func := "groat/groatlaw12.CellOne", spec := "cellOne", named := ["groat/class.kindsOf"], apart := false, laid := [("groat/class.kindsOf", laid_groat_class_kindsOf)], narrowed := true }
def CellOneUptoSaid : Prop := cellOneUptoRow.holds Tryd.pinned (OpenSpec.upto cellOneSpec)

/-- 'groatlaw12.CellParts', WHERE WHAT IT READS IS OF BULK AT MOST 1048576: true; the input reads as it did. -/
def cellPartsUptoRow : OpenClaim := { program := "ytjmpjdefafkldaadoor", sum := "d0bc6e56f7ae66f99bfcb4518d3243fe974da2967ee85fbf529fea6107494909", func := "groat/groatlaw12.CellParts", spec := "cellParts", named := ["groat/class.kindsOf"], apart := false, laid := [("groat/class.kindsOf", laid_groat_class_kindsOf)], narrowed := true }
def CellPartsUptoSaid : Prop := cellPartsUptoRow.holds Tryd.pinned (OpenSpec.upto cellPartsSpec)

end Rows
end Go.Proofs.YtjmpjdefafkldaaDoor
