/-
  DERIVED. GIVEN WITH THE SEED: THE CARDS: each row of YtjmpjdefafkldaaDoorRows.lean that lists a variable, with what it lists TIED to the program's text (the seventh form; the later family's looks); each row that meets fmt, with fmt's text TOLD by the authors' own Lean function (tested against real Go, not proved from fmt's source: count such statements apart). THE CARD IS WHAT COUNTS. Prove the row's statement (the work); the ties are given (YtjmpjdefafkldaaDoorTie.lean); close each card by the builder's one call (the guide's Derived/Test/ToyasCard.lean, 'card_holds'). Laid BY PROGRAM, IN A SANDBOX (cutbox-door.mjs). By AI agents, Wed Nov 11 2026. No macro, syntax, notation, axiom, sorry.
-/
import Derived.Test.YtjmpjdefafkldaaDoorRows
import GoSem.ClaimSeven
namespace Go.Proofs.YtjmpjdefafkldaaDoor
namespace Rows

/-- THE TIED CARD OF 'groatlaw12.CellPuts'. -/
def cellPutsCard : Claim7 := { stood := { row := cellPutsRow, standIns := [], harness := (true, "bcd4f8696d86101b8841b2c8f93f877cd460d41ad31cf0e92f3f63cfc92e1f2a"), looks := false }, kinds := [], alts := [], laidByText := true, laidKinds := [.data], laidTests := true, laidLooks := .later }
def CellPutsCardSaid : Prop := Claim7.holds Tryd.pinned (.plain (OpenSpec.ofChange cellPutsSpec)) cellPutsCard

/-- THE TIED CARD OF 'groatlaw12.CellGets'. -/
def cellGetsCard : Claim7 := { stood := { row := cellGetsRow, standIns := [], harness := (true, "bcd4f8696d86101b8841b2c8f93f877cd460d41ad31cf0e92f3f63cfc92e1f2a"), looks := false }, kinds := [], alts := [], laidByText := true, laidKinds := [.data], laidTests := true, laidLooks := .later }
def CellGetsCardSaid : Prop := Claim7.holds Tryd.pinned (.plain (OpenSpec.ofChange cellGetsSpec)) cellGetsCard

/-- THE TIED CARD OF 'groatlaw12.CellBack'. -/
def cellBackCard : Claim7 := { stood := { row := cellBackRow, standIns := [], harness := (true, "bcd4f8696d86101b8841b2c8f93f877cd460d41ad31cf0e92f3f63cfc92e1f2a"), looks := false }, kinds := [], alts := [], laidByText := true, laidKinds := [.data], laidTests := true, laidLooks := .later }
def CellBackCardSaid : Prop := Claim7.holds Tryd.pinned (.plain (OpenSpec.ofChange cellBackSpec)) cellBackCard

/-- THE TIED CARD OF 'groatlaw12.CellOne'. -/
def cellOneCard : Claim7 := { stood := { row := cellOneRow, standIns := [], harness := (true, "bcd4f8696d86101b8841b2c8f93f877cd460d41ad31cf0e92f3f63cfc92e1f2a"), looks := false }, kinds := [], alts := [], laidByText := true, laidKinds := [.data], laidTests := true, laidLooks := .later }
def CellOneCardSaid : Prop := Claim7.holds Tryd.pinned (.plain (OpenSpec.ofChange cellOneSpec)) cellOneCard

/-- THE TIED CARD OF 'groatlaw12.CellParts'. -/
def cellPartsCard : Claim7 := { stood := { row := cellPartsRow, standIns := [], harness := (true, "bcd4f8696d86101b8841b2c8f93f877cd460d41ad31cf0e92f3f63cfc92e1f2a"), looks := false }, kinds := [], alts := [], laidByText := true, laidKinds := [.data], laidTests := true, laidLooks := .later }
def CellPartsCardSaid : Prop := Claim7.holds Tryd.pinned (.plain (OpenSpec.ofChange cellPartsSpec)) cellPartsCard

/-- THE SECOND FORM's CARD OF 'groatlaw12.CellPuts'. -/
def cellPutsUptoCard : Claim7 := { stood := { row := cellPutsUptoRow, standIns := [], harness := (true, "bcd4f8696d86101b8841b2c8f93f877cd460d41ad31cf0e92f3f63cfc92e1f2a"), looks := false }, kinds := [], alts := [], laidByText := true, laidKinds := [.data], laidTests := true, laidLooks := .later }
def CellPutsUptoCardSaid : Prop := Claim7.holds Tryd.pinned (.plain (OpenSpec.upto cellPutsSpec)) cellPutsUptoCard

/-- THE SECOND FORM's CARD OF 'groatlaw12.CellGets'. -/
def cellGetsUptoCard : Claim7 := { stood := { row := cellGetsUptoRow, standIns := [], harness := (true, "bcd4f8696d86101b8841b2c8f93f877cd460d41ad31cf0e92f3f63cfc92e1f2a"), looks := false }, kinds := [], alts := [], laidByText := true, laidKinds := [.data], laidTests := true, laidLooks := .later }
def CellGetsUptoCardSaid : Prop := Claim7.holds Tryd.pinned (.plain (OpenSpec.upto cellGetsSpec)) cellGetsUptoCard

/-- THE SECOND FORM's CARD OF 'groatlaw12.CellBack'. -/
def cellBackUptoCard : Claim7 := { stood := { row := cellBackUptoRow, standIns := [], harness := (true, "bcd4f8696d86101b8841b2c8f93f877cd460d41ad31cf0e92f3f63cfc92e1f2a"), looks := false }, kinds := [], alts := [], laidByText := true, laidKinds := [.data], laidTests := true, laidLooks := .later }
def CellBackUptoCardSaid : Prop := Claim7.holds Tryd.pinned (.plain (OpenSpec.upto cellBackSpec)) cellBackUptoCard

/-- THE SECOND FORM's CARD OF 'groatlaw12.CellOne'. -/
def cellOneUptoCard : Claim7 := { stood := { row := cellOneUptoRow, standIns := [], harness := (true, "bcd4f8696d86101b8841b2c8f93f877cd460d41ad31cf0e92f3f63cfc92e1f2a"), looks := false }, kinds := [], alts := [], laidByText := true, laidKinds := [.data], laidTests := true, laidLooks := .later }
def CellOneUptoCardSaid : Prop := Claim7.holds Tryd.pinned (.plain (OpenSpec.upto cellOneSpec)) cellOneUptoCard

/-- THE SECOND FORM's CARD OF 'groatlaw12.CellParts'. -/
def cellPartsUptoCard : Claim7 := { stood := { row := cellPartsUptoRow, standIns := [], harness := (true, "bcd4f8696d86101b8841b2c8f93f877cd460d41ad31cf0e92f3f63cfc92e1f2a"), looks := false }, kinds := [], alts := [], laidByText := true, laidKinds := [.data], laidTests := true, laidLooks := .later }
def CellPartsUptoCardSaid : Prop := Claim7.holds Tryd.pinned (.plain (OpenSpec.upto cellPartsSpec)) cellPartsUptoCard
end Rows
end Go.Proofs.YtjmpjdefafkldaaDoor
