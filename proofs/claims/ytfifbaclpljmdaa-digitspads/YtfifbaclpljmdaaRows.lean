/-
  No cell of these rows narrows 'for every input' (looked for: loops, veiled, ifaces, maps, wideKeys, modest, calm, conditions, laid).
  DERIVED. THE GIVEN ROWS OF THIS SEAT. 5 by the template 'for every input the law returns true; each argument reads behind the call as it read before'; 0 by the template 'total and deterministic' (their statements: YtfifbaclpljmdaaTotals.lean).
  GIVEN WITH THE SEED: the statements are not yours to turn. If you find one false, say at which input.
  Laid BY PROGRAM, IN A SANDBOX (cutbox-rows.mjs): the forced cells as the released guide's own fill.sh prints them over the translation cf1d91aace0641c5… (all of the seat's roots in one cut). By AI agents, Wed Nov 11 2026. No macro, syntax, notation, axiom, sorry.
-/
import Derived.Test.YtfifbaclpljmdaaChecked
import GoSem.Claim
import GoSem.ClaimJoined
import GoSem.ClaimMapViews
import Derived.JoinedTies
import Derived.KernelRfl
namespace Go.Proofs.Ytfifbaclpljmdaa
/- THE CELL 'sum', in the pinned program and in every row, IS THE sha256 OF THE DUMP (.gsa) THAT YtfifbaclpljmdaaProg.lean LOADS. Nothing in Lean hashes anything: it is a label: what it is worth is what the hold of that sum in a sandbox is worth. -/
noncomputable def Try.pinned : Pinned := { name := "ytfifbaclpljmdaa", sum := "cf1d91aace0641c563a5c1c3b9b932179f73a744a8ea396dfcd975b59aead36f", checked := Try.checked }
namespace Rows
def none {H : Type} : Left H := { results := [], args := [] }

/-- 'groatlaw01.DigitsPuts': WHATEVER THE INPUT: true; the input reads as it did. -/
def digitsPutsSpec : ChangeSpec := { name := "digitsPuts", fn := fun _ => fun
  | [d1, d2] => { results := [.lit (.bool true)], args := [d1, d2] }
  | _ => none }
def digitsPutsRow : OpenClaim := { program := "ytfifbaclpljmdaa", sum := "cf1d91aace0641c563a5c1c3b9b932179f73a744a8ea396dfcd975b59aead36f", func := "groat/groatlaw01.DigitsPuts", spec := "digitsPuts", inPlace := ["internal/abi.NoEscape", "internal/bytealg.MakeNoZero"], apart := false }
def DigitsPutsSaid : Prop := digitsPutsRow.holds Try.pinned (OpenSpec.ofChange digitsPutsSpec)

/-- ITS FALSE NEIGHBOUR: 'it returns false'. Refute it at one input. -/
def digitsPutsWrong : ChangeSpec := { name := "digitsPuts", fn := fun _ => fun
  | [d1, d2] => { results := [.lit (.bool false)], args := [d1, d2] }
  | _ => none }
def DigitsPutsWrongFalsely : Prop := digitsPutsRow.holds Try.pinned (OpenSpec.ofChange digitsPutsWrong)

/-- 'groatlaw01.DigitsGets': WHATEVER THE INPUT: true; the input reads as it did. -/
def digitsGetsSpec : ChangeSpec := { name := "digitsGets", fn := fun _ => fun
  | [d] => { results := [.lit (.bool true)], args := [d] }
  | _ => none }
def digitsGetsRow : OpenClaim := { program := "ytfifbaclpljmdaa", sum := "cf1d91aace0641c563a5c1c3b9b932179f73a744a8ea396dfcd975b59aead36f", func := "groat/groatlaw01.DigitsGets", spec := "digitsGets", inPlace := ["internal/abi.NoEscape", "internal/bytealg.MakeNoZero"], apart := false }
def DigitsGetsSaid : Prop := digitsGetsRow.holds Try.pinned (OpenSpec.ofChange digitsGetsSpec)

/-- ITS FALSE NEIGHBOUR: 'it returns false'. Refute it at one input. -/
def digitsGetsWrong : ChangeSpec := { name := "digitsGets", fn := fun _ => fun
  | [d] => { results := [.lit (.bool false)], args := [d] }
  | _ => none }
def DigitsGetsWrongFalsely : Prop := digitsGetsRow.holds Try.pinned (OpenSpec.ofChange digitsGetsWrong)

/-- 'groatlaw01.DigitsPads': WHATEVER THE INPUT: true; the input reads as it did. -/
def digitsPadsSpec : ChangeSpec := { name := "digitsPads", fn := fun _ => fun
  | [d1, d2] => { results := [.lit (.bool true)], args := [d1, d2] }
  | _ => none }
def digitsPadsRow : OpenClaim := { program := "ytfifbaclpljmdaa", sum := "cf1d91aace0641c563a5c1c3b9b932179f73a744a8ea396dfcd975b59aead36f", func := "groat/groatlaw01.DigitsPads", spec := "digitsPads", inPlace := ["internal/abi.NoEscape", "internal/bytealg.MakeNoZero"], apart := false }
def DigitsPadsSaid : Prop := digitsPadsRow.holds Try.pinned (OpenSpec.ofChange digitsPadsSpec)

/-- ITS FALSE NEIGHBOUR: 'it returns false'. Refute it at one input. -/
def digitsPadsWrong : ChangeSpec := { name := "digitsPads", fn := fun _ => fun
  | [d1, d2] => { results := [.lit (.bool false)], args := [d1, d2] }
  | _ => none }
def DigitsPadsWrongFalsely : Prop := digitsPadsRow.holds Try.pinned (OpenSpec.ofChange digitsPadsWrong)

/-- 'groatlaw01.DigitsBack': WHATEVER THE INPUT: true; the input reads as it did. -/
def digitsBackSpec : ChangeSpec := { name := "digitsBack", fn := fun _ => fun
  | [d1, d2, d3] => { results := [.lit (.bool true)], args := [d1, d2, d3] }
  | _ => none }
def digitsBackRow : OpenClaim := { program := "ytfifbaclpljmdaa", sum := "cf1d91aace0641c563a5c1c3b9b932179f73a744a8ea396dfcd975b59aead36f", func := "groat/groatlaw01.DigitsBack", spec := "digitsBack", inPlace := ["internal/abi.NoEscape", "internal/bytealg.MakeNoZero"], apart := false }
def DigitsBackSaid : Prop := digitsBackRow.holds Try.pinned (OpenSpec.ofChange digitsBackSpec)

/-- ITS FALSE NEIGHBOUR: 'it returns false'. Refute it at one input. -/
def digitsBackWrong : ChangeSpec := { name := "digitsBack", fn := fun _ => fun
  | [d1, d2, d3] => { results := [.lit (.bool false)], args := [d1, d2, d3] }
  | _ => none }
def DigitsBackWrongFalsely : Prop := digitsBackRow.holds Try.pinned (OpenSpec.ofChange digitsBackWrong)

/-- 'groatlaw01.DigitsOrder': WHATEVER THE INPUT: true; the input reads as it did. -/
def digitsOrderSpec : ChangeSpec := { name := "digitsOrder", fn := fun _ => fun
  | [d1, d2, d3] => { results := [.lit (.bool true)], args := [d1, d2, d3] }
  | _ => none }
def digitsOrderRow : OpenClaim := { program := "ytfifbaclpljmdaa", sum := "cf1d91aace0641c563a5c1c3b9b932179f73a744a8ea396dfcd975b59aead36f", func := "groat/groatlaw01.DigitsOrder", spec := "digitsOrder", inPlace := ["internal/abi.NoEscape", "internal/bytealg.MakeNoZero"], apart := false }
def DigitsOrderSaid : Prop := digitsOrderRow.holds Try.pinned (OpenSpec.ofChange digitsOrderSpec)

/-- ITS FALSE NEIGHBOUR: 'it returns false'. Refute it at one input. -/
def digitsOrderWrong : ChangeSpec := { name := "digitsOrder", fn := fun _ => fun
  | [d1, d2, d3] => { results := [.lit (.bool false)], args := [d1, d2, d3] }
  | _ => none }
def DigitsOrderWrongFalsely : Prop := digitsOrderRow.holds Try.pinned (OpenSpec.ofChange digitsOrderWrong)

/- THE SECOND FORM. 'bulk': how many values and letters a reading holds, each counted each time it is reached (what is shared counts as often as it is met; a slice's spare places count too). A statement '..UptoSaid' is the law's where the arguments, and the package variables that the reading takes, are together of bulk at most 1048576: NARROWER than '..Said'. Prove '..Said' where nothing that the law and all that it calls make is longer than what came in: it says more and counts as full. Else prove '..UptoSaid'. A law counts once. -/
mutual
def uptoBulk {H : Type} : DataW H → Nat
  | .lit (.string bytes) => bytes.length + 1
  | .lit _ => 1
  | .nil => 1
  | .ptr d => uptoBulk d + 1
  | .slice elems spare => uptoBulkAll elems + uptoBulkAll spare + 1
  | .agg parts => uptoBulkAll parts + 1
  | .iface _ d => uptoBulk d + 1
  | .map entries => uptoBulkEntries entries + 1
  | .held _ => 1
def uptoBulkAll {H : Type} : List (DataW H) → Nat
  | [] => 0
  | d :: r => uptoBulk d + uptoBulkAll r
def uptoBulkEntries {H : Type} : List (Lit × DataW H) → Nat
  | [] => 0
  | x :: r => uptoBulkEntry x + uptoBulkEntries r
def uptoBulkEntry {H : Type} : Lit × DataW H → Nat
  | (.string bytes, d) => bytes.length + uptoBulk d + 1
  | (_, d) => uptoBulk d + 1
 end
def uptoSmall : (H : Type) → List (DataW H) → Bool := fun _ ds => decide (uptoBulkAll ds ≤ 1048576)
def OpenSpec.upto (s : _root_.Go.ChangeSpec) : _root_.Go.OpenSpec := { _root_.Go.OpenSpec.ofChange s with cond := some uptoSmall }

/-- 'groatlaw01.DigitsPuts', WHERE WHAT IT READS IS OF BULK AT MOST 1048576: true; the input reads as it did. -/
def digitsPutsUptoRow : OpenClaim := { program := "ytfifbaclpljmdaa", sum := "cf1d91aace0641c563a5c1c3b9b932179f73a744a8ea396dfcd975b59aead36f", func := "groat/groatlaw01.DigitsPuts", spec := "digitsPuts", inPlace := ["internal/abi.NoEscape", "internal/bytealg.MakeNoZero"], apart := false, narrowed := true }
def DigitsPutsUptoSaid : Prop := digitsPutsUptoRow.holds Try.pinned (OpenSpec.upto digitsPutsSpec)

/-- 'groatlaw01.DigitsGets', WHERE WHAT IT READS IS OF BULK AT MOST 1048576: true; the input reads as it did. -/
def digitsGetsUptoRow : OpenClaim := { program := "ytfifbaclpljmdaa", sum := "cf1d91aace0641c563a5c1c3b9b932179f73a744a8ea396dfcd975b59aead36f", func := "groat/groatlaw01.DigitsGets", spec := "digitsGets", inPlace := ["internal/abi.NoEscape", "internal/bytealg.MakeNoZero"], apart := false, narrowed := true }
def DigitsGetsUptoSaid : Prop := digitsGetsUptoRow.holds Try.pinned (OpenSpec.upto digitsGetsSpec)

/-- 'groatlaw01.DigitsPads', WHERE WHAT IT READS IS OF BULK AT MOST 1048576: true; the input reads as it did. -/
def digitsPadsUptoRow : OpenClaim := { program := "ytfifbaclpljmdaa", sum := "cf1d91aace0641c563a5c1c3b9b932179f73a744a8ea396dfcd975b59aead36f", func := "groat/groatlaw01.DigitsPads", spec := "digitsPads", inPlace := ["internal/abi.NoEscape", "internal/bytealg.MakeNoZero"], apart := false, narrowed := true }
def DigitsPadsUptoSaid : Prop := digitsPadsUptoRow.holds Try.pinned (OpenSpec.upto digitsPadsSpec)

/-- 'groatlaw01.DigitsBack', WHERE WHAT IT READS IS OF BULK AT MOST 1048576: true; the input reads as it did. -/
def digitsBackUptoRow : OpenClaim := { program := "ytfifbaclpljmdaa", sum := "cf1d91aace0641c563a5c1c3b9b932179f73a744a8ea396dfcd975b59aead36f", func := "groat/groatlaw01.DigitsBack", spec := "digitsBack", inPlace := ["internal/abi.NoEscape", "internal/bytealg.MakeNoZero"], apart := false, narrowed := true }
def DigitsBackUptoSaid : Prop := digitsBackUptoRow.holds Try.pinned (OpenSpec.upto digitsBackSpec)

/-- 'groatlaw01.DigitsOrder', WHERE WHAT IT READS IS OF BULK AT MOST 1048576: true; the input reads as it did. -/
def digitsOrderUptoRow : OpenClaim := { program := "ytfifbaclpljmdaa", sum := "cf1d91aace0641c563a5c1c3b9b932179f73a744a8ea396dfcd975b59aead36f", func := "groat/groatlaw01.DigitsOrder", spec := "digitsOrder", inPlace := ["internal/abi.NoEscape", "internal/bytealg.MakeNoZero"], apart := false, narrowed := true }
def DigitsOrderUptoSaid : Prop := digitsOrderUptoRow.holds Try.pinned (OpenSpec.upto digitsOrderSpec)

end Rows
end Go.Proofs.Ytfifbaclpljmdaa
