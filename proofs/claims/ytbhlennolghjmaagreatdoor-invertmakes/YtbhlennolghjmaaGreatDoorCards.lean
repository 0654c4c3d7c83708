/-
  DERIVED. GIVEN WITH THE SEED: THE CARDS: each row of YtbhlennolghjmaaGreatDoorRows.lean that lists a variable, with what it lists TIED to the program's text (the seventh form; the later family's looks); each row that meets fmt, with fmt's text TOLD by the authors' own Lean function (tested against real Go, not proved from fmt's source: count such statements apart). THE CARD IS WHAT COUNTS. Prove the row's statement (the work); the ties are given (YtbhlennolghjmaaGreatDoorTie.lean); close each card by the builder's one call (the guide's Derived/Test/ToyasCard.lean, 'card_holds'). Laid BY PROGRAM, IN A SANDBOX (cutbox-door.mjs). By AI agents, Wed Nov 11 2026. No macro, syntax, notation, axiom, sorry.
-/
import Derived.Test.YtbhlennolghjmaaGreatDoorRows
import GoSem.ClaimSeven
namespace Go.Proofs.YtbhlennolghjmaaGreatDoor
namespace Rows

/-- THE TIED CARD OF 'groatlaw22.InvertMakes'. -/
def invertMakesCard : Claim7 := { stood := { row := invertMakesRow, standIns := [], harness := (true, "042a48eee944ff5cb8a5830fdead6f70c9877f232df9feb21ec341d0fafc7ac0"), looks := false }, kinds := [], alts := [], laidByText := true, laidKinds := [.data], laidTests := true, laidLooks := .later }
def InvertMakesCardSaid : Prop := Claim7.holds Tryz.pinned (.plain (OpenSpec.ofChange invertMakesSpec)) invertMakesCard

/-- THE SECOND FORM's CARD OF 'groatlaw22.InvertMakes'. -/
def invertMakesUptoCard : Claim7 := { stood := { row := invertMakesUptoRow, standIns := [], harness := (true, "042a48eee944ff5cb8a5830fdead6f70c9877f232df9feb21ec341d0fafc7ac0"), looks := false }, kinds := [], alts := [], laidByText := true, laidKinds := [.data], laidTests := true, laidLooks := .later }
def InvertMakesUptoCardSaid : Prop := Claim7.holds Tryz.pinned (.plain (OpenSpec.upto invertMakesSpec)) invertMakesUptoCard
end Rows
end Go.Proofs.YtbhlennolghjmaaGreatDoor
