/-
  NARROWER THAN 'FOR EVERY INPUT', by the rows' own cells (each row's printed sentence says how): ClassTells: laid · ClassFirst: laid · ClassWider: laid · ClassKeeps: laid · ClassParts: laid.
  DERIVED. THE GIVEN ROWS OF THIS SEAT. 5 by the template 'for every input the law returns true; each argument reads behind the call as it read before'; 0 by the template 'total and deterministic' (their statements: YtibdaihfelgodaaDoorTotals.lean).
  GIVEN WITH THE SEED: the statements are not yours to turn. If you find one false, say at which input.
  Laid BY PROGRAM, IN A SANDBOX (cutbox-rows.mjs): the forced cells as the released guide's own fill.sh prints them over the translation 68f196a31fe409da… (all of the seat's roots in one cut). By AI agents, Wed Nov 11 2026. No macro, syntax, notation, axiom, sorry.
-/
import Derived.Test.YtibdaihfelgodaaDoorChecked
import GoSem.Claim
import GoSem.ClaimJoined
import GoSem.ClaimMapViews
import Derived.JoinedTies
import Derived.KernelRfl
namespace Go.Proofs.YtibdaihfelgodaaDoor
/- THE CELL 'sum', in the pinned program and in every row, IS THE sha256 OF THE DUMP (.gsa) THAT YtibdaihfelgodaaDoorProg.lean LOADS. Nothing in Lean hashes anything: it is a label: what it is worth is what the hold of that sum in a sandbox is worth. -/
noncomputable def Tryd.pinned : Pinned := { name := "ytibdaihfelgodaadoor", sum := "68f196a31fe409daa8fd3533edd73cbf2661c49b958f3d446aab1e24c2895f35", checked := Tryd.checked }
namespace Rows
def none {H : Type} : Left H := { results := [], args := [] }

/- WHAT THE LISTED PACKAGE-LEVEL VARIABLES READ AS WHEN THE CALL BEGINS. Each datum BY PROGRAM (the guide's laid-datum.mjs) off the statement by which the dump's own 'gosem.cut.vars' lays the variable. In a bare row this is a premise. The card (YtibdaihfelgodaaDoorCards.lean) ties it to the program's text. -/
def laid_groat_class_kindsOf {H : Type} : DataW H := .agg [.lit (.int .i64 0), .lit (.int .i64 1), .lit (.int .i64 2), .lit (.int .i64 3), .lit (.int .i64 7), .lit (.int .i64 15), .lit (.int .i64 15)]

/-- 'groatlaw04.ClassTells': WHATEVER THE INPUT: true; the input reads as it did. -/
def classTellsSpec : ChangeSpec := { name := "classTells", fn := fun _ => fun
  | [d1, d2] => { results := [.lit (.bool true)], args := [d1, d2] }
  | _ => none }
def classTellsRow : OpenClaim := { program := "ytibdaihfelgodaadoor", sum := "68f196a31fe409daa8fd3533edd73cbf2661c49b958f3d446aab1e24c2895f35", func := "groat/groatlaw04.ClassTells", spec := "classTells", named := ["groat/class.kindsOf"], apart := false, laid := [("groat/class.kindsOf", laid_groat_class_kindsOf)] }
def ClassTellsSaid : Prop := classTellsRow.holds Tryd.pinned (OpenSpec.ofChange classTellsSpec)

/-- ITS FALSE NEIGHBOUR: 'it returns false'. Refute it at one input. -/
def classTellsWrong : ChangeSpec := { name := "classTells", fn := fun _ => fun
  | [d1, d2] => { results := [.lit (.bool false)], args := [d1, d2] }
  | _ => none }
def ClassTellsWrongFalsely : Prop := classTellsRow.holds Tryd.pinned (OpenSpec.ofChange classTellsWrong)

/-- 'groatlaw04.ClassFirst': WHATEVER THE INPUT: true; the input reads as it did. -/
def classFirstSpec : ChangeSpec := { name := "classFirst", fn := fun _ => fun
  | [d1, d2] => { results := [.lit (.bool true)], args := [d1, d2] }
  | _ => none }
def classFirstRow : OpenClaim := { program := "ytibdaihfelgodaadoor", sum := "68f196a31fe409daa8fd3533edd73cbf2661c49b958f3d446aab1e24c2895f35", func := "groat/groatlaw04.ClassFirst", spec := "classFirst", named := ["groat/class.kindsOf"], apart := false, laid := [("groat/class.kindsOf", laid_groat_class_kindsOf)] }
def ClassFirstSaid : Prop := classFirstRow.holds Tryd.pinned (OpenSpec.ofChange classFirstSpec)

/-- ITS FALSE NEIGHBOUR: 'it returns false'. Refute it at one input. -/
def classFirstWrong : ChangeSpec := { name := "classFirst", fn := fun _ => fun
  | [d1, d2] => { results := [.lit (.bool false)], args := [d1, d2] }
  | _ => none }
def ClassFirstWrongFalsely : Prop := classFirstRow.holds Tryd.pinned (OpenSpec.ofChange classFirstWrong)

/-- 'groatlaw04.ClassWider': WHATEVER THE INPUT: true; the input reads as it did. -/
def classWiderSpec : ChangeSpec := { name := "classWider", fn := fun _ => fun
  | [d1, d2] => { results := [.lit (.bool true)], args := [d1, d2] }
  | _ => none }
def classWiderRow : OpenClaim := { program := "ytibdaihfelgodaadoor", sum := "68f196a31fe409daa8fd3533edd73cbf2661c49b958f3d446aab1e24c2895f35", func := "groat/groatlaw04.ClassWider", spec := "classWider", named := ["groat/class.kindsOf"], apart := false, laid := [("groat/class.kindsOf", laid_groat_class_kindsOf)] }
def ClassWiderSaid : Prop := classWiderRow.holds Tryd.pinned (OpenSpec.ofChange classWiderSpec)

/-- ITS FALSE NEIGHBOUR: 'it returns false'. Refute it at one input. -/
def classWiderWrong : ChangeSpec := { name := "classWider", fn := fun _ => fun
  | [d1, d2] => { results := [.lit (.bool false)], args := [d1, d2] }
  | _ => none }
def ClassWiderWrongFalsely : Prop := classWiderRow.holds Tryd.pinned (OpenSpec.ofChange classWiderWrong)

/-- 'groatlaw04.ClassKeeps': WHATEVER THE INPUT: true; the input reads as it did. -/
def classKeepsSpec : ChangeSpec := { name := "classKeeps", fn := fun _ => fun
  | [d1, d2, d3] => { results := [.lit (.bool true)], args := [d1, d2, d3] }
  | _ => none }
def classKeepsRow : OpenClaim := { program := "ytibdaihfelgodaadoor", sum := "68f196a31fe409daa8fd3533edd73cbf2661c49b958f3d446aab1e24c2895f35", func := "groat/groatlaw04.ClassKeeps", spec := "classKeeps", named := ["groat/class.kindsOf"], apart := false, laid := [("groat/class.kindsOf", laid_groat_class_kindsOf)] }
def ClassKeepsSaid : Prop := classKeepsRow.holds Tryd.pinned (OpenSpec.ofChange classKeepsSpec)

/-- ITS FALSE NEIGHBOUR: 'it returns false'. Refute it at one input. -/
def classKeepsWrong : ChangeSpec := { name := "classKeeps", fn := fun _ => fun
  | [d1, d2, d3] => { results := [.lit (.bool false)], args := [d1, d2, d3] }
  | _ => none }
def ClassKeepsWrongFalsely : Prop := classKeepsRow.holds Tryd.pinned (OpenSpec.ofChange classKeepsWrong)

/-- 'groatlaw04.ClassParts': WHATEVER THE INPUT: true; the input reads as it did. -/
def classPartsSpec : ChangeSpec := { name := "classParts", fn := fun _ => fun
  | [d1, d2, d3] => { results := [.lit (.bool true)], args := [d1, d2, d3] }
  | _ => none }
def classPartsRow : OpenClaim := { program := "ytibdaihfelgodaadoor", sum := "68f196a31fe409daa8fd3533edd73cbf2661c49b958f3d446aab1e24c2895f35", func := "groat/groatlaw04.ClassParts", spec := "classParts", named := ["groat/class.kindsOf"], apart := false, laid := [("groat/class.kindsOf", laid_groat_class_kindsOf)] }
def ClassPartsSaid : Prop := classPartsRow.holds Tryd.pinned (OpenSpec.ofChange classPartsSpec)

/-- ITS FALSE NEIGHBOUR: 'it returns false'. Refute it at one input. -/
def classPartsWrong : ChangeSpec := { name := "classParts", fn := fun _ => fun
  | [d1, d2, d3] => { results := [.lit (.bool false)], args := [d1, d2, d3] }
  | _ => none }
def ClassPartsWrongFalsely : Prop := classPartsRow.holds Tryd.pinned (OpenSpec.ofChange classPartsWrong)

/- THE SECOND FORM. 'bulk': how many values and letters a reading holds, each counted each time it is reached (what is shared counts as often as it is met; a slice's spare places count too). A statement '..UptoSaid' is the law's where the arguments, and the package variables that the reading takes, are together of bulk at most 1048576: NARROWER than '..Said'. Prove '..Said' where nothing that the law and all that it calls make is longer than what came in: it says more and counts as full. Else prove '..UptoSaid'. A law counts once. -/
mutual
def uptoBulk {H : Type} : DataW H → Nat
  | .lit (.string bytes) => bytes.length + 1
  | .lit _ => 1
  | .nil => 1
  | .ptr d => uptoBulk d + 1
  | .slice elems spare => uptoBulkAll elems + uptoBulkAll spare + 1
  | .agg parts => uptoBulkAll parts + 1
  | .iface _ d => uptoBulk d + 1
  | .map entries => uptoBulkEntries entries + 1
  | .held _ => 1
def uptoBulkAll {H : Type} : List (DataW H) → Nat
  | [] => 0
  | d :: r => uptoBulk d + uptoBulkAll r
def uptoBulkEntries {H : Type} : List (Lit × DataW H) → Nat
  | [] => 0
  | x :: r => uptoBulkEntry x + uptoBulkEntries r
def uptoBulkEntry {H : Type} : Lit × DataW H → Nat
  | (.string bytes, d) => bytes.length + uptoBulk d + 1
  | (_, d) => uptoBulk d + 1
 end
def uptoSmall : (H : Type) → List (DataW H) → Bool := fun _ ds => decide (uptoBulkAll ds ≤ 1048576)
def OpenSpec.upto (s : _root_.Go.ChangeSpec) : _root_.Go.OpenSpec := { _root_.Go.OpenSpec.ofChange s with cond := some uptoSmall }

/-- 'groatlaw04.ClassTells', WHERE WHAT IT READS IS OF BULK AT MOST 1048576: true; the input reads as it did. -/
def classTellsUptoRow : OpenClaim := { program := "ytibdaihfelgodaadoor", sum := "68f196a31fe409daa8fd3533edd73cbf2661c49b958f3d446aab1e24c2895f35", func := "groat/groatlaw04.ClassTells", spec := "classTells", named := ["groat/class.kindsOf"], apart := false, laid := [("groat/class.kindsOf", laid_groat_class_kindsOf)], narrowed := true }
def ClassTellsUptoSaid : Prop := classTellsUptoRow.holds Tryd.pinned (OpenSpec.upto classTellsSpec)

/-- 'groatlaw04.ClassFirst', WHERE WHAT IT READS IS OF BULK AT MOST 1048576: true; the input reads as it did. -/
def classFirstUptoRow : OpenClaim := { program := "ytibdaihfelgodaadoor", sum := "68f196a31fe409daa8fd3533edd73cbf2661c49b958f3d446aab1e24c2895f35", func := "groat/groatlaw04.ClassFirst", spec := "classFirst", named := ["groat/class.kindsOf"], apart := false, laid := [("groat/class.kindsOf", laid_groat_class_kindsOf)], narrowed := true }
def ClassFirstUptoSaid : Prop := classFirstUptoRow.holds Tryd.pinned (OpenSpec.upto classFirstSpec)

/-- 'groatlaw04.ClassWider', WHERE WHAT IT READS IS OF BULK AT MOST 1048576: true; the input reads as it did. -/
def classWiderUptoRow : OpenClaim := { program := "ytibdaihfelgodaadoor", sum := "68f196a31fe409daa8fd3533edd73cbf2661c49b958f3d446aab1e24c2895f35", func := "groat/groatlaw04.ClassWider", spec := "classWider", named := ["groat/class.kindsOf"], apart := false, laid := [("groat/class.kindsOf", laid_groat_class_kindsOf)], narrowed := true }
def ClassWiderUptoSaid : Prop := classWiderUptoRow.holds Tryd.pinned (OpenSpec.upto classWiderSpec)

/-- 'groatlaw04.ClassKeeps', WHERE WHAT IT READS IS OF BULK AT MOST 1048576: true; the input reads as it did. -/
def classKeepsUptoRow : OpenClaim := { program := "ytibdaihfelgodaadoor", sum := "68f196a31fe409daa8fd3533edd73cbf2661c49b958f3d446aab1e24c2895f35", func := "groat/groatlaw04.ClassKeeps", spec := "classKeeps", named := ["groat/class.kindsOf"], apart := false, laid := [("groat/class.kindsOf", laid_groat_class_kindsOf)], narrowed := true }
def ClassKeepsUptoSaid : Prop := classKeepsUptoRow.holds Tryd.pinned (OpenSpec.upto classKeepsSpec)

/-- 'groatlaw04.ClassParts', WHERE WHAT IT READS IS OF BULK AT MOST 1048576: true; the input reads as it did. -/
def classPartsUptoRow : OpenClaim := { program := "ytibdaihfelgodaadoor", sum := "68f196a31fe409daa8fd3533edd73cbf2661c49b958f3d446aab1e24c2895f35", func := "groat/groatlaw04.ClassParts", spec := "classParts", named := ["groat/class.kindsOf"], apart := false, laid := [("groat/class.kindsOf", laid_groat_class_kindsOf)], narrowed := true }
def ClassPartsUptoSaid : Prop := classPartsUptoRow.holds Tryd.pinned (OpenSpec.upto classPartsSpec)

end Rows
end Go.Proofs.YtibdaihfelgodaaDoor
