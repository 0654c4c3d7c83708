/-
  DERIVED. GIVEN WITH THE SEED: THE CARDS: each row of YtbhlennolghjmaaDoorRows.lean that lists a variable, with what it lists TIED to the program's text (the seventh form; the later family's looks); each row that meets fmt, with fmt's text TOLD by the authors' own Lean function (tested against real Go, not proved from fmt's source: count such statements apart). THE CARD IS WHAT COUNTS. Prove the row's statement (the work); the ties are given (YtbhlennolghjmaaDoorTie.lean); close each card by the builder's one call (the guide's Derived/Test/ToyasCard.lean, 'card_holds'). Laid BY PROGRAM, IN A SANDBOX (cutbox-door.mjs). By AI agents, Wed Nov 11 2026. No macro, syntax, notation, axiom, sorry.
-/
import Derived.Test.YtbhlennolghjmaaDoorRows
import GoSem.ClaimSeven
namespace Go.Proofs.YtbhlennolghjmaaDoor
namespace Rows

/-- THE TIED CARD OF 'groatlaw22.InvertChecks'. -/
def invertChecksCard : Claim7 := { stood := { row := invertChecksRow, standIns := [], harness := (true, "6630a203b2ed56a4bdfef386c603f17906b7a35e126e72836fcbed477039d4a2"), looks := false }, kinds := [], alts := [], laidByText := true, laidKinds := [.data], laidTests := true, laidLooks := .later }
def InvertChecksCardSaid : Prop := Claim7.holds Tryd.pinned (.plain (OpenSpec.ofChange invertChecksSpec)) invertChecksCard

/-- THE TIED CARD OF 'groatlaw22.InvertTurns'. -/
def invertTurnsCard : Claim7 := { stood := { row := invertTurnsRow, standIns := [], harness := (true, "6630a203b2ed56a4bdfef386c603f17906b7a35e126e72836fcbed477039d4a2"), looks := false }, kinds := [], alts := [], laidByText := true, laidKinds := [.data], laidTests := true, laidLooks := .later }
def InvertTurnsCardSaid : Prop := Claim7.holds Tryd.pinned (.plain (OpenSpec.ofChange invertTurnsSpec)) invertTurnsCard

/-- THE TIED CARD OF 'groatlaw22.InvertBack'. -/
def invertBackCard : Claim7 := { stood := { row := invertBackRow, standIns := [], harness := (true, "6630a203b2ed56a4bdfef386c603f17906b7a35e126e72836fcbed477039d4a2"), looks := false }, kinds := [], alts := [], laidByText := true, laidKinds := [.data], laidTests := true, laidLooks := .later }
def InvertBackCardSaid : Prop := Claim7.holds Tryd.pinned (.plain (OpenSpec.ofChange invertBackSpec)) invertBackCard

/-- THE TIED CARD OF 'groatlaw22.InvertSchemas'. -/
def invertSchemasCard : Claim7 := { stood := { row := invertSchemasRow, standIns := [], harness := (true, "6630a203b2ed56a4bdfef386c603f17906b7a35e126e72836fcbed477039d4a2"), looks := false }, kinds := [], alts := [], laidByText := true, laidKinds := [.data, .data, .data], laidTests := true, laidLooks := .later }
def InvertSchemasCardSaid : Prop := Claim7.holds Tryd.pinned (.plain (OpenSpec.ofChange invertSchemasSpec)) invertSchemasCard

/-- THE SECOND FORM's CARD OF 'groatlaw22.InvertChecks'. -/
def invertChecksUptoCard : Claim7 := { stood := { row := invertChecksUptoRow, standIns := [], harness := (true, "6630a203b2ed56a4bdfef386c603f17906b7a35e126e72836fcbed477039d4a2"), looks := false }, kinds := [], alts := [], laidByText := true, laidKinds := [.data], laidTests := true, laidLooks := .later }
def InvertChecksUptoCardSaid : Prop := Claim7.holds Tryd.pinned (.plain (OpenSpec.upto invertChecksSpec)) invertChecksUptoCard

/-- THE SECOND FORM's CARD OF 'groatlaw22.InvertTurns'. -/
def invertTurnsUptoCard : Claim7 := { stood := { row := invertTurnsUptoRow, standIns := [], harness := (true, "6630a203b2ed56a4bdfef386c603f17906b7a35e126e72836fcbed477039d4a2"), looks := false }, kinds := [], alts := [], laidByText := true, laidKinds := [.data], laidTests := true, laidLooks := .later }
def InvertTurnsUptoCardSaid : Prop := Claim7.holds Tryd.pinned (.plain (OpenSpec.upto invertTurnsSpec)) invertTurnsUptoCard

/-- THE SECOND FORM's CARD OF 'groatlaw22.InvertBack'. -/
def invertBackUptoCard : Claim7 := { stood := { row := invertBackUptoRow, standIns := [], harness := (true, "6630a203b2ed56a4bdfef386c603f17906b7a35e126e72836fcbed477039d4a2"), looks := false }, kinds := [], alts := [], laidByText := true, laidKinds := [.data], laidTests := true, laidLooks := .later }
def InvertBackUptoCardSaid : Prop := Claim7.holds Tryd.pinned (.plain (OpenSpec.upto invertBackSpec)) invertBackUptoCard

/-- THE SECOND FORM's CARD OF 'groatlaw22.InvertSchemas'. -/
def invertSchemasUptoCard : Claim7 := { stood := { row := invertSchemasUptoRow, standIns := [], harness := (true, "6630a203b2ed56a4bdfef386c603f17906b7a35e126e72836fcbed477039d4a2"), looks := false }, kinds := [], alts := [], laidByText := true, laidKinds := [.data, .data, .data], laidTests := true, laidLooks := .later }
def InvertSchemasUptoCardSaid : Prop := Claim7.holds Tryd.pinned (.plain (OpenSpec.upto invertSchemasSpec)) invertSchemasUptoCard
end Rows
end Go.Proofs.YtbhlennolghjmaaDoor
