/-
  NARROWER THAN 'FOR EVERY INPUT', by the rows' own cells (each row's printed sentence says how): WireTypes: laid · WireEncodes: laid · WireParts: laid · WireApart: laid · WireAdds: laid.
  DERIVED. THE GIVEN ROWS OF THIS SEAT. 5 by the template 'for every input the law returns true; each argument reads behind the call as it read before'; 0 by the template 'total and deterministic' (their statements: YtckapcafpnlnoaaDoorTotals.lean).
  GIVEN WITH THE SEED: the statements are not yours to turn. If you find one false, say at which input.
  Laid BY PROGRAM, IN A SANDBOX (cutbox-rows.mjs): the forced cells as the released guide's own fill.sh prints them over the translation deeed22f2592cb10… (all of the seat's roots in one cut). By AI agents, Wed Nov 11 2026. No macro, syntax, notation, axiom, sorry.
-/
import Derived.Test.YtckapcafpnlnoaaDoorChecked
import GoSem.Claim
import GoSem.ClaimJoined
import GoSem.ClaimMapViews
import Derived.JoinedTies
import Derived.KernelRfl
namespace Go.Proofs.YtckapcafpnlnoaaDoor
/- THE CELL 'sum', in the pinned program and in every row, IS THE sha256 OF THE DUMP (.gsa) THAT YtckapcafpnlnoaaDoorProg.lean LOADS. Nothing in Lean hashes anything: it is a label: what it is worth is what the hold of that sum in a sandbox is worth. -/
noncomputable def Tryd.pinned : Pinned := { name := "ytckapcafpnlnoaadoor", sum := "deeed22f2592cb10fba457ad0f9f07705fcd40fbcc0d1185a19dca515597c5b2", checked := Tryd.checked }
namespace Rows
def none {H : Type} : Left H := { results := [], args := [] }

/- WHAT THE LISTED PACKAGE-LEVEL VARIABLES READ AS WHEN THE CALL BEGINS. Each datum BY PROGRAM (the guide's laid-datum.mjs) off the statement by which the dump's own 'gosem.cut.vars' lays the variable. In a bare row this is a premise. The card (YtckapcafpnlnoaaDoorCards.lean) ties it to the program's text. -/
def laid_groat_class_kindsOf {H : Type} : DataW H := .agg [.lit (.int .i64 0), .lit (.int .i64 1), .lit (.int .i64 2), .lit (.int .i64 3), .lit (.int .i64 7), .lit (.int .i64 15), .lit (.int .i64 15)]

/-- 'groatlaw17.WireTypes': WHATEVER THE INPUT: true; the input reads as it did. -/
def wireTypesSpec : ChangeSpec := { name := "wireTypes", fn := fun _ => fun
  | [d1, d2] => { results := [.lit (.bool true)], args := [d1, d2] }
  | _ => none }
def wireTypesRow : OpenClaim := { program := "ytckapcafpnlnoaadoor", sum := "deeed22f2592cb10fba457ad0f9f07705fcd40fbcc0d1185a19dca515597c5b2", func := "groat/groatlaw17.WireTypes", spec := "wireTypes", inPlace := ["internal/abi.NoEscape"], unfollowed := true, recurses := true, named := ["groat/class.kindsOf"], apart := false, laid := [("groat/class.kindsOf", laid_groat_class_kindsOf)] }
def WireTypesSaid : Prop := wireTypesRow.holds Tryd.pinned (OpenSpec.ofChange wireTypesSpec)

/-- ITS FALSE NEIGHBOUR: 'it returns false'. Refute it at one input. -/
def wireTypesWrong : ChangeSpec := { name := "wireTypes", fn := fun _ => fun
  | [d1, d2] => { results := [.lit (.bool false)], args := [d1, d2] }
  | _ => none }
def WireTypesWrongFalsely : Prop := wireTypesRow.holds Tryd.pinned (OpenSpec.ofChange wireTypesWrong)

/-- 'groatlaw17.WireEncodes': WHATEVER THE INPUT: true; the input reads as it did. -/
def wireEncodesSpec : ChangeSpec := { name := "wireEncodes", fn := fun _ => fun
  | [d1, d2] => { results := [.lit (.bool true)], args := [d1, d2] }
  | _ => none }
def wireEncodesRow : OpenClaim := { program := "ytckapcafpnlnoaadoor", sum := "deeed22f2592cb10fba457ad0f9f07705fcd40fbcc0d1185a19dca515597c5b2", func := "groat/groatlaw17.WireEncodes", spec := "wireEncodes", inPlace := ["internal/abi.NoEscape"], unfollowed := true, recurses := true, named := ["groat/class.kindsOf"], apart := false, laid := [("groat/class.kindsOf", laid_groat_class_kindsOf)] }
def WireEncodesSaid : Prop := wireEncodesRow.holds Tryd.pinned (OpenSpec.ofChange wireEncodesSpec)

/-- ITS FALSE NEIGHBOUR: 'it returns false'. Refute it at one input. -/
def wireEncodesWrong : ChangeSpec := { name := "wireEncodes", fn := fun _ => fun
  | [d1, d2] => { results := [.lit (.bool false)], args := [d1, d2] }
  | _ => none }
def WireEncodesWrongFalsely : Prop := wireEncodesRow.holds Tryd.pinned (OpenSpec.ofChange wireEncodesWrong)

/-- 'groatlaw17.WireParts': WHATEVER THE INPUT: true; the input reads as it did. -/
def wirePartsSpec : ChangeSpec := { name := "wireParts", fn := fun _ => fun
  | [d1, d2] => { results := [.lit (.bool true)], args := [d1, d2] }
  | _ => none }
def wirePartsRow : OpenClaim := { program := "ytckapcafpnlnoaadoor", sum := "deeed22f2592cb10fba457ad0f9f07705fcd40fbcc0d1185a19dca515597c5b2", func := "groat/groatlaw17.WireParts", spec := "wireParts", inPlace := ["internal/abi.NoEscape"], unfollowed := true, recurses := true, named := ["groat/class.kindsOf"], apart := false, laid := [("groat/class.kindsOf", laid_groat_class_kindsOf)] }
def WirePartsSaid : Prop := wirePartsRow.holds Tryd.pinned (OpenSpec.ofChange wirePartsSpec)

/-- ITS FALSE NEIGHBOUR: 'it returns false'. Refute it at one input. -/
def wirePartsWrong : ChangeSpec := { name := "wireParts", fn := fun _ => fun
  | [d1, d2] => { results := [.lit (.bool false)], args := [d1, d2] }
  | _ => none }
def WirePartsWrongFalsely : Prop := wirePartsRow.holds Tryd.pinned (OpenSpec.ofChange wirePartsWrong)

/-- 'groatlaw17.WireApart': WHATEVER THE INPUT: true; the input reads as it did. -/
def wireApartSpec : ChangeSpec := { name := "wireApart", fn := fun _ => fun
  | [d1, d2, d3] => { results := [.lit (.bool true)], args := [d1, d2, d3] }
  | _ => none }
def wireApartRow : OpenClaim := { program := "ytckapcafpnlnoaadoor", sum := "deeed22f2592cb10fba457ad0f9f07705fcd40fbcc0d1185a19dca515597c5b2", func := "groat/groatlaw17.WireApart", spec := "wireApart", inPlace := ["internal/abi.NoEscape"], unfollowed := true, recurses := true, named := ["groat/class.kindsOf"], apart := false, laid := [("groat/class.kindsOf", laid_groat_class_kindsOf)] }
def WireApartSaid : Prop := wireApartRow.holds Tryd.pinned (OpenSpec.ofChange wireApartSpec)

/-- ITS FALSE NEIGHBOUR: 'it returns false'. Refute it at one input. -/
def wireApartWrong : ChangeSpec := { name := "wireApart", fn := fun _ => fun
  | [d1, d2, d3] => { results := [.lit (.bool false)], args := [d1, d2, d3] }
  | _ => none }
def WireApartWrongFalsely : Prop := wireApartRow.holds Tryd.pinned (OpenSpec.ofChange wireApartWrong)

/-- 'groatlaw17.WireAdds': WHATEVER THE INPUT: true; the input reads as it did. -/
def wireAddsSpec : ChangeSpec := { name := "wireAdds", fn := fun _ => fun
  | [d1, d2, d3] => { results := [.lit (.bool true)], args := [d1, d2, d3] }
  | _ => none }
def wireAddsRow : OpenClaim := { program := "ytckapcafpnlnoaadoor", sum := "deeed22f2592cb10fba457ad0f9f07705fcd40fbcc0d1185a19dca515597c5b2", func := "groat/groatlaw17.WireAdds", spec := "wireAdds", inPlace := ["internal/abi.NoEscape"], unfollowed := true, recurses := true, named := ["groat/class.kindsOf"], apart := false, laid := [("groat/class.kindsOf", laid_groat_class_kindsOf)] }
def WireAddsSaid : Prop := wireAddsRow.holds Tryd.pinned (OpenSpec.ofChange wireAddsSpec)

/-- ITS FALSE NEIGHBOUR: 'it returns false'. Refute it at one input. -/
def wireAddsWrong : ChangeSpec := { name := "wireAdds", fn := fun _ => fun
  | [d1, d2, d3] => { results := [.lit (.bool false)], args := [d1, d2, d3] }
  | _ => none }
def WireAddsWrongFalsely : Prop := wireAddsRow.holds Tryd.pinned (OpenSpec.ofChange wireAddsWrong)

/- THE SECOND FORM. 'bulk': how many values and letters a reading holds, each counted each time it is reached (what is shared counts as often as it is met; a slice's spare places count too). A statement '..UptoSaid' is the law's where the arguments, and the package variables that the reading takes, are together of bulk at most 1048576: NARROWER than '..Said'. Prove '..Said' where nothing that the law and all that it calls make is longer than what came in: it says more and counts as full. Else prove '..UptoSaid'. A law counts once. -/
mutual
def uptoBulk {H : Type} : DataW H → Nat
  | .lit (.string bytes) => bytes.length + 1
  | .lit _ => 1
  | .nil => 1
  | .ptr d => uptoBulk d + 1
  | .slice elems spare => uptoBulkAll elems + uptoBulkAll spare + 1
  | .agg parts => uptoBulkAll parts + 1
  | .iface _ d => uptoBulk d + 1
  | .map entries => uptoBulkEntries entries + 1
  | .held _ => 1
def uptoBulkAll {H : Type} : List (DataW H) → Nat
  | [] => 0
  | d :: r => uptoBulk d + uptoBulkAll r
def uptoBulkEntries {H : Type} : List (Lit × DataW H) → Nat
  | [] => 0
  | x :: r => uptoBulkEntry x + uptoBulkEntries r
def uptoBulkEntry {H : Type} : Lit × DataW H → Nat
  | (.string bytes, d) => bytes.length + uptoBulk d + 1
  | (_, d) => uptoBulk d + 1
 end
def uptoSmall : (H : Type) → List (DataW H) → Bool := fun _ ds => decide (uptoBulkAll ds ≤ 1048576)
def OpenSpec.upto (s : _root_.Go.ChangeSpec) : _root_.Go.OpenSpec := { _root_.Go.OpenSpec.ofChange s with cond := some uptoSmall }

/-- 'groatlaw17.WireTypes', WHERE WHAT IT READS IS OF BULK AT MOST 1048576: true; the input reads as it did. -/
def wireTypesUptoRow : OpenClaim := { program := "ytckapcafpnlnoaadoor", sum := "deeed22f2592cb10fba457ad0f9f07705fcd40fbcc0d1185a19dca515597c5b2", func := "groat/groatlaw17.WireTypes", spec := "wireTypes", inPlace := ["internal/abi.NoEscape"], unfollowed := true, recurses := true, named := ["groat/class.kindsOf"], apart := false, laid := [("groat/class.kindsOf", laid_groat_class_kindsOf)], narrowed := true }
def WireTypesUptoSaid : Prop := wireTypesUptoRow.holds Tryd.pinned (OpenSpec.upto wireTypesSpec)

/-- 'groatlaw17.WireEncodes', WHERE WHAT IT READS IS OF BULK AT MOST 1048576: true; the input reads as it did. -/
def wireEncodesUptoRow : OpenClaim := { program := "ytckapcafpnlnoaadoor", sum := "deeed22f2592cb10fba457ad0f9f07705fcd40fbcc0d1185a19dca515597c5b2", func := "groat/groatlaw17.WireEncodes", spec := "wireEncodes", inPlace := ["internal/abi.NoEscape"], unfollowed := true, recurses := true, named := ["groat/class.kindsOf"], apart := false, laid := [("groat/class.kindsOf", laid_groat_class_kindsOf)], narrowed := true }
def WireEncodesUptoSaid : Prop := wireEncodesUptoRow.holds Tryd.pinned (OpenSpec.upto wireEncodesSpec)

/-- 'groatlaw17.WireParts', WHERE WHAT IT READS IS OF BULK AT MOST 1048576: true; the input reads as it did. -/
def wirePartsUptoRow : OpenClaim := { program := "ytckapcafpnlnoaadoor", sum := "deeed22f2592cb10fba457ad0f9f07705fcd40fbcc0d1185a19dca515597c5b2", func := "groat/groatlaw17.WireParts", spec := "wireParts", inPlace := ["internal/abi.NoEscape"], unfollowed := true, recurses := true, named := ["groat/class.kindsOf"], apart := false, laid := [("groat/class.kindsOf", laid_groat_class_kindsOf)], narrowed := true }
def WirePartsUptoSaid : Prop := wirePartsUptoRow.holds Tryd.pinned (OpenSpec.upto wirePartsSpec)

/-- 'groatlaw17.WireApart', WHERE WHAT IT READS IS OF BULK AT MOST 1048576: true; the input reads as it did. -/
def wireApartUptoRow : OpenClaim := { program := "ytckapcafpnlnoaadoor", sum := "deeed22f2592cb10fba457ad0f9f07705fcd40fbcc0d1185a19dca515597c5b2", func := "groat/groatlaw17.WireApart", spec := "wireApart", inPlace := ["internal/abi.NoEscape"], unfollowed := true, recurses := true, named := ["groat/class.kindsOf"], apart := false, laid := [("groat/class.kindsOf", laid_groat_class_kindsOf)], narrowed := true }
def WireApartUptoSaid : Prop := wireApartUptoRow.holds Tryd.pinned (OpenSpec.upto wireApartSpec)

/-- 'groatlaw17.WireAdds', WHERE WHAT IT READS IS OF BULK AT MOST 1048576: true; the input reads as it did. -/
def wireAddsUptoRow : OpenClaim := { program := "ytckapcafpnlnoaadoor", sum := "deeed22f2592cb10fba457ad0f9f07705fcd40fbcc0d1185a19dca515597c5b2", func := "groat/groatlaw17.WireAdds", spec := "wireAdds", inPlace := ["internal/abi.NoEscape"], unfollowed := true, recurses := true, named := ["groat/class.kindsOf"], apart := false, laid := [("groat/class.kindsOf", laid_groat_class_kindsOf)], narrowed := true }
def WireAddsUptoSaid : Prop := wireAddsUptoRow.holds Tryd.pinned (OpenSpec.upto wireAddsSpec)

end Rows
end Go.Proofs.YtckapcafpnlnoaaDoor
