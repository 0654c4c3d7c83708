/-
  NARROWER THAN 'FOR EVERY INPUT', by the rows' own cells (each row's printed sentence says how): StrictDecodes: laid · StrictBack: laid · StrictOne: laid · StrictPart: laid · StrictCut: laid · StrictMore: laid.
  DERIVED. THE GIVEN ROWS OF THIS SEAT. 6 by the template 'for every input the law returns true; each argument reads behind the call as it read before'; 0 by the template 'total and deterministic' (their statements: YtlkpiapmdflahaaDoorTotals.lean).
  GIVEN WITH THE SEED: the statements are not yours to turn. If you find one false, say at which input.
  Laid BY PROGRAM, IN A SANDBOX (cutbox-rows.mjs): the forced cells as the released guide's own fill.sh prints them over the translation 675e9c4e4b6ee5f9… (all of the seat's roots in one cut). By AI agents, Wed Nov 11 2026. No macro, syntax, notation, axiom, sorry.
-/
import Derived.Test.YtlkpiapmdflahaaDoorChecked
import GoSem.Claim
import GoSem.ClaimJoined
import GoSem.ClaimMapViews
import Derived.JoinedTies
import Derived.KernelRfl
namespace Go.Proofs.YtlkpiapmdflahaaDoor
/- THE CELL 'sum', in the pinned program and in every row, IS THE sha256 OF THE DUMP (.gsa) THAT YtlkpiapmdflahaaDoorProg.lean LOADS. Nothing in Lean hashes anything: it is a label: what it is worth is what the hold of that sum in a sandbox is worth. -/
noncomputable def Tryd.pinned : Pinned := { name := "ytlkpiapmdflahaadoor", sum := "675e9c4e4b6ee5f9990dec533c38df42eab3c7520a25881a4c4dc9bd948cd0ee", checked := Tryd.checked }
namespace Rows
def none {H : Type} : Left H := { results := [], args := [] }

/- WHAT THE LISTED PACKAGE-LEVEL VARIABLES READ AS WHEN THE CALL BEGINS. Each datum BY PROGRAM (the guide's laid-datum.mjs) off the statement by which the dump's own 'gosem.cut.vars' lays the variable. In a bare row this is a premise. The card (YtlkpiapmdflahaaDoorCards.lean) ties it to the program's text. -/
def laid_groat_class_kindsOf {H : Type} : DataW H := .agg [.lit (.int .i64 0), .lit (.int .i64 1), .lit (.int .i64 2), .lit (.int .i64 3), .lit (.int .i64 7), .lit (.int .i64 15), .lit (.int .i64 15)]

/-- 'groatlaw18.StrictDecodes': WHATEVER THE INPUT: true; the input reads as it did. -/
def strictDecodesSpec : ChangeSpec := { name := "strictDecodes", fn := fun _ => fun
  | [d1, d2] => { results := [.lit (.bool true)], args := [d1, d2] }
  | _ => none }
def strictDecodesRow : OpenClaim := { program := "ytlkpiapmdflahaadoor", sum := "675e9c4e4b6ee5f9990dec533c38df42eab3c7520a25881a4c4dc9bd948cd0ee", func := "groat/groatlaw18.StrictDecodes", spec := "strictDecodes", named := ["groat/class.kindsOf"], apart := false, laid := [("groat/class.kindsOf", laid_groat_class_kindsOf)] }
def StrictDecodesSaid : Prop := strictDecodesRow.holds Tryd.pinned (OpenSpec.ofChange strictDecodesSpec)

/-- ITS FALSE NEIGHBOUR: 'it returns false'. Refute it at one input. -/
def strictDecodesWrong : ChangeSpec := { name := "strictDecodes", fn := fun _ => fun
  | [d1, d2] => { results := [.lit (.bool false)], args := [d1, d2] }
  | _ => none }
def StrictDecodesWrongFalsely : Prop := strictDecodesRow.holds Tryd.pinned (OpenSpec.ofChange strictDecodesWrong)

/-- 'groatlaw18.StrictBack': WHATEVER THE INPUT: true; the input reads as it did. -/
def strictBackSpec : ChangeSpec := { name := "strictBack", fn := fun _ => fun
  | [d1, d2] => { results := [.lit (.bool true)], args := [d1, d2] }
  | _ => none }
def strictBackRow : OpenClaim := { program := "ytlkpiapmdflahaadoor", sum := "675e9c4e4b6ee5f9990dec533c38df42eab3c7520a25881a4c4dc9bd948cd0ee", func := "groat/groatlaw18.StrictBack", spec := "strictBack", inPlace := ["internal/abi.NoEscape"], unfollowed := true, recurses := true, named := ["groat/class.kindsOf"], apart := false, laid := [("groat/class.kindsOf", laid_groat_class_kindsOf)] }
def StrictBackSaid : Prop := strictBackRow.holds Tryd.pinned (OpenSpec.ofChange strictBackSpec)

/-- ITS FALSE NEIGHBOUR: 'it returns false'. Refute it at one input. -/
def strictBackWrong : ChangeSpec := { name := "strictBack", fn := fun _ => fun
  | [d1, d2] => { results := [.lit (.bool false)], args := [d1, d2] }
  | _ => none }
def StrictBackWrongFalsely : Prop := strictBackRow.holds Tryd.pinned (OpenSpec.ofChange strictBackWrong)

/-- 'groatlaw18.StrictOne': WHATEVER THE INPUT: true; the input reads as it did. -/
def strictOneSpec : ChangeSpec := { name := "strictOne", fn := fun _ => fun
  | [d1, d2] => { results := [.lit (.bool true)], args := [d1, d2] }
  | _ => none }
def strictOneRow : OpenClaim := { program := "ytlkpiapmdflahaadoor", sum := "675e9c4e4b6ee5f9990dec533c38df42eab3c7520a25881a4c4dc9bd948cd0ee", func := "groat/groatlaw18.StrictOne", spec := "strictOne", inPlace := ["internal/abi.NoEscape"], unfollowed := true, recurses := true, named := ["groat/class.kindsOf"], apart := false, laid := [("groat/class.kindsOf", laid_groat_class_kindsOf)] }
def StrictOneSaid : Prop := strictOneRow.holds Tryd.pinned (OpenSpec.ofChange strictOneSpec)

/-- ITS FALSE NEIGHBOUR: 'it returns false'. Refute it at one input. -/
def strictOneWrong : ChangeSpec := { name := "strictOne", fn := fun _ => fun
  | [d1, d2] => { results := [.lit (.bool false)], args := [d1, d2] }
  | _ => none }
def StrictOneWrongFalsely : Prop := strictOneRow.holds Tryd.pinned (OpenSpec.ofChange strictOneWrong)

/-- 'groatlaw18.StrictPart': WHATEVER THE INPUT: true; the input reads as it did. -/
def strictPartSpec : ChangeSpec := { name := "strictPart", fn := fun _ => fun
  | [d1, d2] => { results := [.lit (.bool true)], args := [d1, d2] }
  | _ => none }
def strictPartRow : OpenClaim := { program := "ytlkpiapmdflahaadoor", sum := "675e9c4e4b6ee5f9990dec533c38df42eab3c7520a25881a4c4dc9bd948cd0ee", func := "groat/groatlaw18.StrictPart", spec := "strictPart", named := ["groat/class.kindsOf"], apart := false, laid := [("groat/class.kindsOf", laid_groat_class_kindsOf)] }
def StrictPartSaid : Prop := strictPartRow.holds Tryd.pinned (OpenSpec.ofChange strictPartSpec)

/-- ITS FALSE NEIGHBOUR: 'it returns false'. Refute it at one input. -/
def strictPartWrong : ChangeSpec := { name := "strictPart", fn := fun _ => fun
  | [d1, d2] => { results := [.lit (.bool false)], args := [d1, d2] }
  | _ => none }
def StrictPartWrongFalsely : Prop := strictPartRow.holds Tryd.pinned (OpenSpec.ofChange strictPartWrong)

/-- 'groatlaw18.StrictCut': WHATEVER THE INPUT: true; the input reads as it did. -/
def strictCutSpec : ChangeSpec := { name := "strictCut", fn := fun _ => fun
  | [d1, d2, d3] => { results := [.lit (.bool true)], args := [d1, d2, d3] }
  | _ => none }
def strictCutRow : OpenClaim := { program := "ytlkpiapmdflahaadoor", sum := "675e9c4e4b6ee5f9990dec533c38df42eab3c7520a25881a4c4dc9bd948cd0ee", func := "groat/groatlaw18.StrictCut", spec := "strictCut", inPlace := ["internal/abi.NoEscape"], unfollowed := true, recurses := true, named := ["groat/class.kindsOf"], apart := false, laid := [("groat/class.kindsOf", laid_groat_class_kindsOf)] }
def StrictCutSaid : Prop := strictCutRow.holds Tryd.pinned (OpenSpec.ofChange strictCutSpec)

/-- ITS FALSE NEIGHBOUR: 'it returns false'. Refute it at one input. -/
def strictCutWrong : ChangeSpec := { name := "strictCut", fn := fun _ => fun
  | [d1, d2, d3] => { results := [.lit (.bool false)], args := [d1, d2, d3] }
  | _ => none }
def StrictCutWrongFalsely : Prop := strictCutRow.holds Tryd.pinned (OpenSpec.ofChange strictCutWrong)

/-- 'groatlaw18.StrictMore': WHATEVER THE INPUT: true; the input reads as it did. -/
def strictMoreSpec : ChangeSpec := { name := "strictMore", fn := fun _ => fun
  | [d1, d2, d3] => { results := [.lit (.bool true)], args := [d1, d2, d3] }
  | _ => none }
def strictMoreRow : OpenClaim := { program := "ytlkpiapmdflahaadoor", sum := "675e9c4e4b6ee5f9990dec533c38df42eab3c7520a25881a4c4dc9bd948cd0ee", func := "groat/groatlaw18.StrictMore", spec := "strictMore", inPlace := ["internal/abi.NoEscape"], unfollowed := true, recurses := true, named := ["groat/class.kindsOf"], apart := false, laid := [("groat/class.kindsOf", laid_groat_class_kindsOf)] }
def StrictMoreSaid : Prop := strictMoreRow.holds Tryd.pinned (OpenSpec.ofChange strictMoreSpec)

/-- ITS FALSE NEIGHBOUR: 'it returns false'. Refute it at one input. -/
def strictMoreWrong : ChangeSpec := { name := "strictMore", fn := fun _ => fun
  | [d1, d2, d3] => { results := [.lit (.bool false)], args := [d1, d2, d3] }
  | _ => none }
def StrictMoreWrongFalsely : Prop := strictMoreRow.holds Tryd.pinned (OpenSpec.ofChange strictMoreWrong)

/- THE SECOND FORM. 'bulk': how many values and letters a reading holds, each counted each time it is reached (what is shared counts as often as it is met; a slice's spare places count too). A statement '..UptoSaid' is the law's where the arguments, and the package variables that the reading takes, are together of bulk at most 1048576: NARROWER than '..Said'. Prove '..Said' where nothing that the law and all that it calls make is longer than what came in: it says more and counts as full. Else prove '..UptoSaid'. A law counts once. -/
mutual
def uptoBulk {H : Type} : DataW H → Nat
  | .lit (.string bytes) => bytes.length + 1
  | .lit _ => 1
  | .nil => 1
  | .ptr d => uptoBulk d + 1
  | .slice elems spare => uptoBulkAll elems + uptoBulkAll spare + 1
  | .agg parts => uptoBulkAll parts + 1
  | .iface _ d => uptoBulk d + 1
  | .map entries => uptoBulkEntries entries + 1
  | .held _ => 1
def uptoBulkAll {H : Type} : List (DataW H) → Nat
  | [] => 0
  | d :: r => uptoBulk d + uptoBulkAll r
def uptoBulkEntries {H : Type} : List (Lit × DataW H) → Nat
  | [] => 0
  | x :: r => uptoBulkEntry x + uptoBulkEntries r
def uptoBulkEntry {H : Type} : Lit × DataW H → Nat
  | (.string bytes, d) => bytes.length + uptoBulk d + 1
  | (_, d) => uptoBulk d + 1
 end
def uptoSmall : (H : Type) → List (DataW H) → Bool := fun _ ds => decide (uptoBulkAll ds ≤ 1048576)
def OpenSpec.upto (s : _root_.Go.ChangeSpec) : _root_.Go.OpenSpec := { _root_.Go.OpenSpec.ofChange s with cond := some uptoSmall }

/-- 'groatlaw18.StrictDecodes', WHERE WHAT IT READS IS OF BULK AT MOST 1048576: true; the input reads as it did. -/
def strictDecodesUptoRow : OpenClaim := { program := "ytlkpiapmdflahaadoor", sum := "675e9c4e4b6ee5f9990dec533c38df42eab3c7520a25881a4c4dc9bd948cd0ee", func := "groat/groatlaw18.StrictDecodes", spec := "strictDecodes", named := ["groat/class.kindsOf"], apart := false, laid := [("groat/class.kindsOf", laid_groat_class_kindsOf)], narrowed := true }
def StrictDecodesUptoSaid : Prop := strictDecodesUptoRow.holds Tryd.pinned (OpenSpec.upto strictDecodesSpec)

/-- 'groatlaw18.StrictBack', WHERE WHAT IT READS IS OF BULK AT MOST 1048576: true; the input reads as it did. -/
def strictBackUptoRow : OpenClaim := { program := "ytlkpiapmdflahaadoor", sum := "675e9c4e4b6ee5f9990dec533c38df42eab3c7520a25881a4c4dc9bd948cd0ee", func := "groat/groatlaw18.StrictBack", spec := "strictBack", inPlace := ["internal/abi.NoEscape"], unfollowed := true, recurses := true, named := ["groat/class.kindsOf"], apart := false, laid := [("groat/class.kindsOf", laid_groat_class_kindsOf)], narrowed := true }
def StrictBackUptoSaid : Prop := strictBackUptoRow.holds Tryd.pinned (OpenSpec.upto strictBackSpec)

/-- 'groatlaw18.StrictOne', WHERE WHAT IT READS IS OF BULK AT MOST 1048576: true; the input reads as it did. -/
def strictOneUptoRow : OpenClaim := { program := "ytlkpiapmdflahaadoor", sum := "675e9c4e4b6ee5f9990dec533c38df42eab3c7520a25881a4c4dc9bd948cd0ee", func := "groat/groatlaw18.StrictOne", spec := "strictOne", inPlace := ["internal/abi.NoEscape"], unfollowed := true, recurses := true, named := ["groat/class.kindsOf"], apart := false, laid := [("groat/class.kindsOf", laid_groat_class_kindsOf)], narrowed := true }
def StrictOneUptoSaid : Prop := strictOneUptoRow.holds Tryd.pinned (OpenSpec.upto strictOneSpec)

/-- 'groatlaw18.StrictPart', WHERE WHAT IT READS IS OF BULK AT MOST 1048576: true; the input reads as it did. -/
def strictPartUptoRow : OpenClaim := { program := "ytlkpiapmdflahaadoor", sum := "675e9c4e4b6ee5f9990dec533c38df42eab3c7520a25881a4c4dc9bd948cd0ee", func := "groat/groatlaw18.StrictPart", spec := "strictPart", named := ["groat/class.kindsOf"], apart := false, laid := [("groat/class.kindsOf", laid_groat_class_kindsOf)], narrowed := true }
def StrictPartUptoSaid : Prop := strictPartUptoRow.holds Tryd.pinned (OpenSpec.upto strictPartSpec)

/-- 'groatlaw18.StrictCut', WHERE WHAT IT READS IS OF BULK AT MOST 1048576: true; the input reads as it did. -/
def strictCutUptoRow : OpenClaim := { program := "ytlkpiapmdflahaadoor", sum := "675e9c4e4b6ee5f9990dec533c38df42eab3c7520a25881a4c4dc9bd948cd0ee", func := "groat/groatlaw18.StrictCut", spec := "strictCut", inPlace := ["internal/abi.NoEscape"], unfollowed := true, recurses := true, named := ["groat/class.kindsOf"], apart := false, laid := [("groat/class.kindsOf", laid_groat_class_kindsOf)], narrowed := true }
def StrictCutUptoSaid : Prop := strictCutUptoRow.holds Tryd.pinned (OpenSpec.upto strictCutSpec)

/-- 'groatlaw18.StrictMore', WHERE WHAT IT READS IS OF BULK AT MOST 1048576: true; the input reads as it did. -/
def strictMoreUptoRow : OpenClaim := { program := "ytlkpiapmdflahaadoor", sum := "675e9c4e4b6ee5f9990dec533c38df42eab3c7520a25881a4c4dc9bd948cd0ee", func := "groat/groatlaw18.StrictMore", spec := "strictMore", inPlace := ["internal/abi.NoEscape"], unfollowed := true, recurses := true, named := ["groat/class.kindsOf"], apart := false, laid := [("groat/class.kindsOf", laid_groat_class_kindsOf)], narrowed := true }
def StrictMoreUptoSaid : Prop := strictMoreUptoRow.holds Tryd.pinned (OpenSpec.upto strictMoreSpec)

end Rows
end Go.Proofs.YtlkpiapmdflahaaDoor
