/-
  NARROWER THAN 'FOR EVERY INPUT', by the rows' own cells (each row's printed sentence says how): DialectFields: laid · DialectRight: laid · DialectOwn: laid · DialectLossless: laid.
  DERIVED. THE GIVEN ROWS OF THIS SEAT. 4 by the template 'for every input the law returns true; each argument reads behind the call as it read before'; 0 by the template 'total and deterministic' (their statements: YtbclaiaadeecfaaDoorTotals.lean).
  GIVEN WITH THE SEED: the statements are not yours to turn. If you find one false, say at which input.
  Laid BY PROGRAM, IN A SANDBOX (cutbox-rows.mjs): the forced cells as the released guide's own fill.sh prints them over the translation 5eb3078154b4391d… (all of the seat's roots in one cut). By AI agents, Wed Nov 11 2026. No macro, syntax, notation, axiom, sorry.
-/
import Derived.Test.YtbclaiaadeecfaaDoorChecked
import GoSem.Claim
import GoSem.ClaimJoined
import GoSem.ClaimMapViews
import Derived.JoinedTies
import Derived.KernelRfl
namespace Go.Proofs.YtbclaiaadeecfaaDoor
/- THE CELL 'sum', in the pinned program and in every row, IS THE sha256 OF THE DUMP (.gsa) THAT YtbclaiaadeecfaaDoorProg.lean LOADS. Nothing in Lean hashes anything: it is a label: what it is worth is what the hold of that sum in a sandbox is worth. -/
noncomputable def Tryd.pinned : Pinned := { name := "ytbclaiaadeecfaadoor", sum := "5eb3078154b4391d182fb5e220a1d52e1ac790a77a0ead77075cee76c3a8e9ac", checked := Tryd.checked }
namespace Rows
def none {H : Type} : Left H := { results := [], args := [] }

/- WHAT THE LISTED PACKAGE-LEVEL VARIABLES READ AS WHEN THE CALL BEGINS. Each datum BY PROGRAM (the guide's laid-datum.mjs) off the statement by which the dump's own 'gosem.cut.vars' lays the variable. In a bare row this is a premise. The card (YtbclaiaadeecfaaDoorCards.lean) ties it to the program's text. -/
def laid_groat_dialect_acquirer {H : Type} : DataW H := .agg [.agg [.lit (.int .i64 2), .lit (.int .i64 1), .lit (.int .i64 2), .lit (.int .i64 12), .lit (.int .i64 19)], .agg [.lit (.int .i64 3), .lit (.int .i64 1), .lit (.int .i64 1), .lit (.int .i64 6), .lit (.int .i64 6)], .agg [.lit (.int .i64 4), .lit (.int .i64 1), .lit (.int .i64 1), .lit (.int .i64 12), .lit (.int .i64 12)], .agg [.lit (.int .i64 7), .lit (.int .i64 1), .lit (.int .i64 1), .lit (.int .i64 10), .lit (.int .i64 10)], .agg [.lit (.int .i64 11), .lit (.int .i64 1), .lit (.int .i64 1), .lit (.int .i64 6), .lit (.int .i64 6)], .agg [.lit (.int .i64 12), .lit (.int .i64 1), .lit (.int .i64 1), .lit (.int .i64 6), .lit (.int .i64 6)], .agg [.lit (.int .i64 13), .lit (.int .i64 1), .lit (.int .i64 1), .lit (.int .i64 4), .lit (.int .i64 4)], .agg [.lit (.int .i64 14), .lit (.int .i64 1), .lit (.int .i64 1), .lit (.int .i64 4), .lit (.int .i64 4)], .agg [.lit (.int .i64 18), .lit (.int .i64 1), .lit (.int .i64 1), .lit (.int .i64 4), .lit (.int .i64 4)], .agg [.lit (.int .i64 22), .lit (.int .i64 1), .lit (.int .i64 1), .lit (.int .i64 3), .lit (.int .i64 3)], .agg [.lit (.int .i64 23), .lit (.int .i64 1), .lit (.int .i64 1), .lit (.int .i64 3), .lit (.int .i64 3)], .agg [.lit (.int .i64 32), .lit (.int .i64 1), .lit (.int .i64 2), .lit (.int .i64 1), .lit (.int .i64 11)], .agg [.lit (.int .i64 35), .lit (.int .i64 4), .lit (.int .i64 2), .lit (.int .i64 1), .lit (.int .i64 37)], .agg [.lit (.int .i64 37), .lit (.int .i64 3), .lit (.int .i64 1), .lit (.int .i64 12), .lit (.int .i64 12)], .agg [.lit (.int .i64 38), .lit (.int .i64 3), .lit (.int .i64 1), .lit (.int .i64 6), .lit (.int .i64 6)], .agg [.lit (.int .i64 39), .lit (.int .i64 3), .lit (.int .i64 1), .lit (.int .i64 2), .lit (.int .i64 2)], .agg [.lit (.int .i64 41), .lit (.int .i64 4), .lit (.int .i64 1), .lit (.int .i64 8), .lit (.int .i64 8)], .agg [.lit (.int .i64 42), .lit (.int .i64 4), .lit (.int .i64 1), .lit (.int .i64 15), .lit (.int .i64 15)], .agg [.lit (.int .i64 43), .lit (.int .i64 4), .lit (.int .i64 1), .lit (.int .i64 40), .lit (.int .i64 40)], .agg [.lit (.int .i64 48), .lit (.int .i64 4), .lit (.int .i64 3), .lit (.int .i64 1), .lit (.int .i64 999)], .agg [.lit (.int .i64 49), .lit (.int .i64 1), .lit (.int .i64 1), .lit (.int .i64 3), .lit (.int .i64 3)], .agg [.lit (.int .i64 52), .lit (.int .i64 5), .lit (.int .i64 1), .lit (.int .i64 8), .lit (.int .i64 8)], .agg [.lit (.int .i64 55), .lit (.int .i64 6), .lit (.int .i64 3), .lit (.int .i64 1), .lit (.int .i64 255)], .agg [.lit (.int .i64 64), .lit (.int .i64 5), .lit (.int .i64 1), .lit (.int .i64 8), .lit (.int .i64 8)], .agg [.lit (.int .i64 70), .lit (.int .i64 1), .lit (.int .i64 1), .lit (.int .i64 3), .lit (.int .i64 3)], .agg [.lit (.int .i64 90), .lit (.int .i64 1), .lit (.int .i64 1), .lit (.int .i64 42), .lit (.int .i64 42)], .agg [.lit (.int .i64 102), .lit (.int .i64 4), .lit (.int .i64 2), .lit (.int .i64 1), .lit (.int .i64 28)], .agg [.lit (.int .i64 128), .lit (.int .i64 5), .lit (.int .i64 1), .lit (.int .i64 8), .lit (.int .i64 8)]]
def laid_groat_dialect_issuer {H : Type} : DataW H := .agg [.agg [.lit (.int .i64 2), .lit (.int .i64 1), .lit (.int .i64 2), .lit (.int .i64 12), .lit (.int .i64 19)], .agg [.lit (.int .i64 3), .lit (.int .i64 1), .lit (.int .i64 1), .lit (.int .i64 6), .lit (.int .i64 6)], .agg [.lit (.int .i64 4), .lit (.int .i64 1), .lit (.int .i64 1), .lit (.int .i64 12), .lit (.int .i64 12)], .agg [.lit (.int .i64 7), .lit (.int .i64 1), .lit (.int .i64 1), .lit (.int .i64 10), .lit (.int .i64 10)], .agg [.lit (.int .i64 11), .lit (.int .i64 1), .lit (.int .i64 1), .lit (.int .i64 6), .lit (.int .i64 6)], .agg [.lit (.int .i64 12), .lit (.int .i64 1), .lit (.int .i64 1), .lit (.int .i64 12), .lit (.int .i64 12)], .agg [.lit (.int .i64 14), .lit (.int .i64 1), .lit (.int .i64 1), .lit (.int .i64 4), .lit (.int .i64 4)], .agg [.lit (.int .i64 22), .lit (.int .i64 3), .lit (.int .i64 1), .lit (.int .i64 12), .lit (.int .i64 12)], .agg [.lit (.int .i64 23), .lit (.int .i64 1), .lit (.int .i64 1), .lit (.int .i64 3), .lit (.int .i64 3)], .agg [.lit (.int .i64 26), .lit (.int .i64 1), .lit (.int .i64 1), .lit (.int .i64 4), .lit (.int .i64 4)], .agg [.lit (.int .i64 32), .lit (.int .i64 1), .lit (.int .i64 2), .lit (.int .i64 1), .lit (.int .i64 11)], .agg [.lit (.int .i64 35), .lit (.int .i64 4), .lit (.int .i64 2), .lit (.int .i64 1), .lit (.int .i64 37)], .agg [.lit (.int .i64 37), .lit (.int .i64 3), .lit (.int .i64 1), .lit (.int .i64 12), .lit (.int .i64 12)], .agg [.lit (.int .i64 38), .lit (.int .i64 3), .lit (.int .i64 1), .lit (.int .i64 6), .lit (.int .i64 6)], .agg [.lit (.int .i64 39), .lit (.int .i64 1), .lit (.int .i64 1), .lit (.int .i64 3), .lit (.int .i64 3)], .agg [.lit (.int .i64 41), .lit (.int .i64 4), .lit (.int .i64 1), .lit (.int .i64 8), .lit (.int .i64 8)], .agg [.lit (.int .i64 42), .lit (.int .i64 4), .lit (.int .i64 1), .lit (.int .i64 15), .lit (.int .i64 15)], .agg [.lit (.int .i64 43), .lit (.int .i64 4), .lit (.int .i64 2), .lit (.int .i64 1), .lit (.int .i64 99)], .agg [.lit (.int .i64 48), .lit (.int .i64 4), .lit (.int .i64 3), .lit (.int .i64 1), .lit (.int .i64 999)], .agg [.lit (.int .i64 49), .lit (.int .i64 1), .lit (.int .i64 1), .lit (.int .i64 3), .lit (.int .i64 3)], .agg [.lit (.int .i64 52), .lit (.int .i64 5), .lit (.int .i64 1), .lit (.int .i64 8), .lit (.int .i64 8)], .agg [.lit (.int .i64 55), .lit (.int .i64 6), .lit (.int .i64 3), .lit (.int .i64 1), .lit (.int .i64 255)], .agg [.lit (.int .i64 64), .lit (.int .i64 5), .lit (.int .i64 1), .lit (.int .i64 8), .lit (.int .i64 8)], .agg [.lit (.int .i64 70), .lit (.int .i64 1), .lit (.int .i64 1), .lit (.int .i64 3), .lit (.int .i64 3)], .agg [.lit (.int .i64 102), .lit (.int .i64 4), .lit (.int .i64 2), .lit (.int .i64 1), .lit (.int .i64 28)], .agg [.lit (.int .i64 128), .lit (.int .i64 5), .lit (.int .i64 1), .lit (.int .i64 8), .lit (.int .i64 8)]]

/-- 'groatlaw14.DialectFields': WHATEVER THE INPUT: true; the input reads as it did. -/
def dialectFieldsSpec : ChangeSpec := { name := "dialectFields", fn := fun _ => fun
  | [d1, d2] => { results := [.lit (.bool true)], args := [d1, d2] }
  | _ => none }
def dialectFieldsRow : OpenClaim := { program := "ytbclaiaadeecfaadoor", sum := "5eb3078154b4391d182fb5e220a1d52e1ac790a77a0ead77075cee76c3a8e9ac", func := "groat/groatlaw14.DialectFields", spec := "dialectFields", named := ["groat/dialect.issuer", "groat/dialect.acquirer"], apart := false, laid := [("groat/dialect.acquirer", laid_groat_dialect_acquirer), ("groat/dialect.issuer", laid_groat_dialect_issuer)] }
def DialectFieldsSaid : Prop := dialectFieldsRow.holds Tryd.pinned (OpenSpec.ofChange dialectFieldsSpec)

/-- ITS FALSE NEIGHBOUR: 'it returns false'. Refute it at one input. -/
def dialectFieldsWrong : ChangeSpec := { name := "dialectFields", fn := fun _ => fun
  | [d1, d2] => { results := [.lit (.bool false)], args := [d1, d2] }
  | _ => none }
def DialectFieldsWrongFalsely : Prop := dialectFieldsRow.holds Tryd.pinned (OpenSpec.ofChange dialectFieldsWrong)

/-- 'groatlaw14.DialectRight': WHATEVER THE INPUT: true; the input reads as it did. -/
def dialectRightSpec : ChangeSpec := { name := "dialectRight", fn := fun _ => fun
  | [d1, d2, d3] => { results := [.lit (.bool true)], args := [d1, d2, d3] }
  | _ => none }
def dialectRightRow : OpenClaim := { program := "ytbclaiaadeecfaadoor", sum := "5eb3078154b4391d182fb5e220a1d52e1ac790a77a0ead77075cee76c3a8e9ac", func := "groat/groatlaw14.DialectRight", spec := "dialectRight", named := ["groat/dialect.issuer", "groat/dialect.acquirer"], apart := false, laid := [("groat/dialect.acquirer", laid_groat_dialect_acquirer), ("groat/dialect.issuer", laid_groat_dialect_issuer)] }
def DialectRightSaid : Prop := dialectRightRow.holds Tryd.pinned (OpenSpec.ofChange dialectRightSpec)

/-- ITS FALSE NEIGHBOUR: 'it returns false'. Refute it at one input. -/
def dialectRightWrong : ChangeSpec := { name := "dialectRight", fn := fun _ => fun
  | [d1, d2, d3] => { results := [.lit (.bool false)], args := [d1, d2, d3] }
  | _ => none }
def DialectRightWrongFalsely : Prop := dialectRightRow.holds Tryd.pinned (OpenSpec.ofChange dialectRightWrong)

/-- 'groatlaw14.DialectOwn': WHATEVER THE INPUT: true; the input reads as it did. -/
def dialectOwnSpec : ChangeSpec := { name := "dialectOwn", fn := fun _ => fun
  | [d1, d2, d3] => { results := [.lit (.bool true)], args := [d1, d2, d3] }
  | _ => none }
def dialectOwnRow : OpenClaim := { program := "ytbclaiaadeecfaadoor", sum := "5eb3078154b4391d182fb5e220a1d52e1ac790a77a0ead77075cee76c3a8e9ac", func := "groat/groatlaw14.DialectOwn", spec := "dialectOwn", named := ["groat/dialect.issuer", "groat/dialect.acquirer"], apart := false, laid := [("groat/dialect.acquirer", laid_groat_dialect_acquirer), ("groat/dialect.issuer", laid_groat_dialect_issuer)] }
def DialectOwnSaid : Prop := dialectOwnRow.holds Tryd.pinned (OpenSpec.ofChange dialectOwnSpec)

/-- ITS FALSE NEIGHBOUR: 'it returns false'. Refute it at one input. -/
def dialectOwnWrong : ChangeSpec := { name := "dialectOwn", fn := fun _ => fun
  | [d1, d2, d3] => { results := [.lit (.bool false)], args := [d1, d2, d3] }
  | _ => none }
def DialectOwnWrongFalsely : Prop := dialectOwnRow.holds Tryd.pinned (OpenSpec.ofChange dialectOwnWrong)

/-- 'groatlaw14.DialectLossless': WHATEVER THE INPUT: true; the input reads as it did. -/
def dialectLosslessSpec : ChangeSpec := { name := "dialectLossless", fn := fun _ => fun
  | [d] => { results := [.lit (.bool true)], args := [d] }
  | _ => none }
def dialectLosslessRow : OpenClaim := { program := "ytbclaiaadeecfaadoor", sum := "5eb3078154b4391d182fb5e220a1d52e1ac790a77a0ead77075cee76c3a8e9ac", func := "groat/groatlaw14.DialectLossless", spec := "dialectLossless", named := ["groat/dialect.issuer", "groat/dialect.acquirer"], apart := false, laid := [("groat/dialect.acquirer", laid_groat_dialect_acquirer), ("groat/dialect.issuer", laid_groat_dialect_issuer)] }
def DialectLosslessSaid : Prop := dialectLosslessRow.holds Tryd.pinned (OpenSpec.ofChange dialectLosslessSpec)

/-- ITS FALSE NEIGHBOUR: 'it returns false'. Refute it at one input. -/
def dialectLosslessWrong : ChangeSpec := { name := "dialectLossless", fn := fun _ => fun
  | [d] => { results := [.lit (.bool false)], args := [d] }
  | _ => none }
def DialectLosslessWrongFalsely : Prop := dialectLosslessRow.holds Tryd.pinned (OpenSpec.ofChange dialectLosslessWrong)

/- THE SECOND FORM. 'bulk': how many values and letters a reading holds, each counted each time it is reached (what is shared counts as often as it is met; a slice's spare places count too). A statement '..UptoSaid' is the law's where the arguments, and the package variables that the reading takes, are together of bulk at most 1048576: NARROWER than '..Said'. Prove '..Said' where nothing that the law and all that it calls make is longer than what came in: it says more and counts as full. Else prove '..UptoSaid'. A law counts once. -/
mutual
def uptoBulk {H : Type} : DataW H → Nat
  | .lit (.string bytes) => bytes.length + 1
  | .lit _ => 1
  | .nil => 1
  | .ptr d => uptoBulk d + 1
  | .slice elems spare => uptoBulkAll elems + uptoBulkAll spare + 1
  | .agg parts => uptoBulkAll parts + 1
  | .iface _ d => uptoBulk d + 1
  | .map entries => uptoBulkEntries entries + 1
  | .held _ => 1
def uptoBulkAll {H : Type} : List (DataW H) → Nat
  | [] => 0
  | d :: r => uptoBulk d + uptoBulkAll r
def uptoBulkEntries {H : Type} : List (Lit × DataW H) → Nat
  | [] => 0
  | x :: r => uptoBulkEntry x + uptoBulkEntries r
def uptoBulkEntry {H : Type} : Lit × DataW H → Nat
  | (.string bytes, d) => bytes.length + uptoBulk d + 1
  | (_, d) => uptoBulk d + 1
 end
def uptoSmall : (H : Type) → List (DataW H) → Bool := fun _ ds => decide (uptoBulkAll ds ≤ 1048576)
def OpenSpec.upto (s : _root_.Go.ChangeSpec) : _root_.Go.OpenSpec := { _root_.Go.OpenSpec.ofChange s with cond := some uptoSmall }

/-- 'groatlaw14.DialectFields', WHERE WHAT IT READS IS OF BULK AT MOST 1048576: true; the input reads as it did. -/
def dialectFieldsUptoRow : OpenClaim := { program := "ytbclaiaadeecfaadoor", sum := "5eb3078154b4391d182fb5e220a1d52e1ac790a77a0ead77075cee76c3a8e9ac", func := "groat/groatlaw14.DialectFields", spec := "dialectFields", named := ["groat/dialect.issuer", "groat/dialect.acquirer"], apart := false, laid := [("groat/dialect.acquirer", laid_groat_dialect_acquirer), ("groat/dialect.issuer", laid_groat_dialect_issuer)], narrowed := true }
def DialectFieldsUptoSaid : Prop := dialectFieldsUptoRow.holds Tryd.pinned (OpenSpec.upto dialectFieldsSpec)

/-- 'groatlaw14.DialectRight', WHERE WHAT IT READS IS OF BULK AT MOST 1048576: true; the input reads as it did. -/
def dialectRightUptoRow : OpenClaim := { program := "ytbclaiaadeecfaadoor", sum := "5eb3078154b4391d182fb5e220a1d52e1ac790a77a0ead77075cee76c3a8e9ac", func := "groat/groatlaw14.DialectRight", spec := "dialectRight", named := ["groat/dialect.issuer", "groat/dialect.acquirer"], apart := false, laid := [("groat/dialect.acquirer", laid_groat_dialect_acquirer), ("groat/dialect.issuer", laid_groat_dialect_issuer)], narrowed := true }
def DialectRightUptoSaid : Prop := dialectRightUptoRow.holds Tryd.pinned (OpenSpec.upto dialectRightSpec)

/-- 'groatlaw14.DialectOwn', WHERE WHAT IT READS IS OF BULK AT MOST 1048576: true; the input reads as it did. -/
def dialectOwnUptoRow : OpenClaim := { program := "ytbclaiaadeecfaadoor", sum := "5eb3078154b4391d182fb5e220a1d52e1ac790a77a0ead77075cee76c3a8e9ac", func := "groat/groatlaw14.DialectOwn", spec := "dialectOwn", named := ["groat/dialect.issuer", "groat/dialect.acquirer"], apart := false, laid := [("groat/dialect.acquirer", laid_groat_dialect_acquirer), ("groat/dialect.issuer", laid_groat_dialect_issuer)], narrowed := true }
def DialectOwnUptoSaid : Prop := dialectOwnUptoRow.holds Tryd.pinned (OpenSpec.upto dialectOwnSpec)

/-- 'groatlaw14.DialectLossless', WHERE WHAT IT READS IS OF BULK AT MOST 1048576: true; the input reads as it did. -/
def dialectLosslessUptoRow : OpenClaim := { program := "ytbclaiaadeecfaadoor", sum := "5eb3078154b4391d182fb5e220a1d52e1ac790a77a0ead77075cee76c3a8e9ac", func := "groat/groatlaw14.DialectLossless", spec := "dialectLossless", named := ["groat/dialect.issuer", "groat/dialect.acquirer"], apart := false, laid := [("groat/dialect.acquirer", laid_groat_dialect_acquirer), ("groat/dialect.issuer", laid_groat_dialect_issuer)], narrowed := true }
def DialectLosslessUptoSaid : Prop := dialectLosslessUptoRow.holds Tryd.pinned (OpenSpec.upto dialectLosslessSpec)

end Rows
end Go.Proofs.YtbclaiaadeecfaaDoor
