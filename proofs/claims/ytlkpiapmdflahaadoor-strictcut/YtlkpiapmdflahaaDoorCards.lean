/-
  DERIVED. GIVEN WITH THE SEED: THE CARDS: each row of YtlkpiapmdflahaaDoorRows.lean that lists a variable, with what it lists TIED to the program's text (the seventh form; the later family's looks); each row that meets fmt, with fmt's text TOLD by the authors' own Lean function (tested against real Go, not proved from fmt's source: count such statements apart). THE CARD IS WHAT COUNTS. Prove the row's statement (the work); the ties are given (YtlkpiapmdflahaaDoorTie.lean); close each card by the builder's one call (the guide's Derived/Test/ToyasCard.lean, 'card_holds'). Laid BY PROGRAM, IN A SANDBOX (cutbox-door.mjs). By AI agents, Wed Nov 11 2026. No macro, syntax, notation, axiom, sorry.
-/
import Derived.Test.YtlkpiapmdflahaaDoorRows
import GoSem.ClaimSeven
namespace Go.Proofs.YtlkpiapmdflahaaDoor
namespace Rows

/-- THE TIED CARD OF 'groatlaw18.StrictDecodes'. -/
def strictDecodesCard : Claim7 := { stood := { row := strictDecodesRow, standIns := [], harness := (true, "51ee8c89c1780ee98a25e00801857623b5084328c796528d57d1c081f20b97be"), looks := false }, kinds := [], alts := [], laidByText := true, laidKinds := [.data], laidTests := true, laidLooks := .later }
def StrictDecodesCardSaid : Prop := Claim7.holds Tryd.pinned (.plain (OpenSpec.ofChange strictDecodesSpec)) strictDecodesCard

/-- THE TIED CARD OF 'groatlaw18.StrictBack'. -/
def strictBackCard : Claim7 := { stood := { row := strictBackRow, standIns := [], harness := (true, "51ee8c89c1780ee98a25e00801857623b5084328c796528d57d1c081f20b97be"), looks := false }, kinds := [], alts := [], laidByText := true, laidKinds := [.data], laidTests := true, laidLooks := .later }
def StrictBackCardSaid : Prop := Claim7.holds Tryd.pinned (.plain (OpenSpec.ofChange strictBackSpec)) strictBackCard

/-- THE TIED CARD OF 'groatlaw18.StrictOne'. -/
def strictOneCard : Claim7 := { stood := { row := strictOneRow, standIns := [], harness := (true, "51ee8c89c1780ee98a25e00801857623b5084328c796528d57d1c081f20b97be"), looks := false }, kinds := [], alts := [], laidByText := true, laidKinds := [.data], laidTests := true, laidLooks := .later }
def StrictOneCardSaid : Prop := Claim7.holds Tryd.pinned (.plain (OpenSpec.ofChange strictOneSpec)) strictOneCard

/-- THE TIED CARD OF 'groatlaw18.StrictPart'. -/
def strictPartCard : Claim7 := { stood := { row := strictPartRow, standIns := [], harness := (true, "51ee8c89c1780ee98a25e00801857623b5084328c796528d57d1c081f20b97be"), looks := false }, kinds := [], alts := [], laidByText := true, laidKinds := [.data], laidTests := true, laidLooks := .later }
def StrictPartCardSaid : Prop := Claim7.holds Tryd.pinned (.plain (OpenSpec.ofChange strictPartSpec)) strictPartCard

/-- THE TIED CARD OF 'groatlaw18.StrictCut'. -/
def strictCutCard : Claim7 := { stood := { row := strictCutRow, standIns := [], harness := (true, "51ee8c89c1780ee98a25e00801857623b5084328c796528d57d1c081f20b97be"), looks := false }, kinds := [], alts := [], laidByText := true, laidKinds := [.data], laidTests := true, laidLooks := .later }
def StrictCutCardSaid : Prop := Claim7.holds Tryd.pinned (.plain (OpenSpec.ofChange strictCutSpec)) strictCutCard

/-- THE TIED CARD OF 'groatlaw18.StrictMore'. -/
def strictMoreCard : Claim7 := { stood := { row := strictMoreRow, standIns := [], harness := (true, "51ee8c89c1780ee98a25e00801857623b5084328c796528d57d1c081f20b97be"), looks := false }, kinds := [], alts := [], laidByText := true, laidKinds := [.data], laidTests := true, laidLooks := .later }
def StrictMoreCardSaid : Prop := Claim7.holds Tryd.pinned (.plain (OpenSpec.ofChange strictMoreSpec)) strictMoreCard

/-- THE SECOND FORM's CARD OF 'groatlaw18.StrictDecodes'. -/
def strictDecodesUptoCard : Claim7 := { stood := { row := strictDecodesUptoRow, standIns := [], harness := (true, "51ee8c89c1780ee98a25e00801857623b5084328c796528d57d1c081f20b97be"), looks := false }, kinds := [], alts := [], laidByText := true, laidKinds := [.data], laidTests := true, laidLooks := .later }
def StrictDecodesUptoCardSaid : Prop := Claim7.holds Tryd.pinned (.plain (OpenSpec.upto strictDecodesSpec)) strictDecodesUptoCard

/-- THE SECOND FORM's CARD OF 'groatlaw18.StrictBack'. -/
def strictBackUptoCard : Claim7 := { stood := { row := strictBackUptoRow, standIns := [], harness := (true, "51ee8c89c1780ee98a25e00801857623b5084328c796528d57d1c081f20b97be"), looks := false }, kinds := [], alts := [], laidByText := true, laidKinds := [.data], laidTests := true, laidLooks := .later }
def StrictBackUptoCardSaid : Prop := Claim7.holds Tryd.pinned (.plain (OpenSpec.upto strictBackSpec)) strictBackUptoCard

/-- THE SECOND FORM's CARD OF 'groatlaw18.StrictOne'. -/
def strictOneUptoCard : Claim7 := { stood := { row := strictOneUptoRow, standIns := [], harness := (true, "51ee8c89c1780ee98a25e00801857623b5084328c796528d57d1c081f20b97be"), looks := false }, kinds := [], alts := [], laidByText := true, laidKinds := [.data], laidTests := true, laidLooks := .later }
def StrictOneUptoCardSaid : Prop := Claim7.holds Tryd.pinned (.plain (OpenSpec.upto strictOneSpec)) strictOneUptoCard

/-- THE SECOND FORM's CARD OF 'groatlaw18.StrictPart'. -/
def strictPartUptoCard : Claim7 := { stood := { row := strictPartUptoRow, standIns := [], harness := (true, "51ee8c89c1780ee98a25e00801857623b5084328c796528d57d1c081f20b97be"), looks := false }, kinds := [], alts := [], laidByText := true, laidKinds := [.data], laidTests := true, laidLooks := .later }
def StrictPartUptoCardSaid : Prop := Claim7.holds Tryd.pinned (.plain (OpenSpec.upto strictPartSpec)) strictPartUptoCard

/-- THE SECOND FORM's CARD OF 'groatlaw18.StrictCut'. -/
def strictCutUptoCard : Claim7 := { stood := { row := strictCutUptoRow, standIns := [], harness := (true, "51ee8c89c1780ee98a25e00801857623b5084328c796528d57d1c081f20b97be"), looks := false }, kinds := [], alts := [], laidByText := true, laidKinds := [.data], laidTests := true, laidLooks := .later }
def StrictCutUptoCardSaid : Prop := Claim7.holds Tryd.pinned (.plain (OpenSpec.upto strictCutSpec)) strictCutUptoCard

/-- THE SECOND FORM's CARD OF 'groatlaw18.StrictMore'. -/
def strictMoreUptoCard : Claim7 := { stood := { row := strictMoreUptoRow, standIns := [], harness := (true, "51ee8c89c1780ee98a25e00801857623b5084328c796528d57d1c081f20b97be"), looks := false }, kinds := [], alts := [], laidByText := true, laidKinds := [.data], laidTests := true, laidLooks := .later }
def StrictMoreUptoCardSaid : Prop := Claim7.holds Tryd.pinned (.plain (OpenSpec.upto strictMoreSpec)) strictMoreUptoCard
end Rows
end Go.Proofs.YtlkpiapmdflahaaDoor
