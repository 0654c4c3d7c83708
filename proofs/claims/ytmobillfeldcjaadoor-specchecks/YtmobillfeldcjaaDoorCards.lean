/-
  DERIVED. GIVEN WITH THE SEED: THE CARDS: each row of YtmobillfeldcjaaDoorRows.lean that lists a variable, with what it lists TIED to the program's text (the seventh form; the later family's looks); each row that meets fmt, with fmt's text TOLD by the authors' own Lean function (tested against real Go, not proved from fmt's source: count such statements apart). THE CARD IS WHAT COUNTS. Prove the row's statement (the work); the ties are given (YtmobillfeldcjaaDoorTie.lean); close each card by the builder's one call (the guide's Derived/Test/ToyasCard.lean, 'card_holds'). Laid BY PROGRAM, IN A SANDBOX (cutbox-door.mjs). By AI agents, Wed Nov 11 2026. No macro, syntax, notation, axiom, sorry.
-/
import Derived.Test.YtmobillfeldcjaaDoorRows
import GoSem.ClaimSeven
namespace Go.Proofs.YtmobillfeldcjaaDoor
namespace Rows

/-- THE TIED CARD OF 'groatlaw11.SpecChecks'. -/
def specChecksCard : Claim7 := { stood := { row := specChecksRow, standIns := [], harness := (true, "efa37e4d27e111d9f0fde7cbb34bcaa0100ed61938672ac280fab6f5e30879dd"), looks := false }, kinds := [], alts := [], laidByText := true, laidKinds := [.data], laidTests := true, laidLooks := .later }
def SpecChecksCardSaid : Prop := Claim7.holds Tryd.pinned (.plain (OpenSpec.ofChange specChecksSpec)) specChecksCard

/-- THE TIED CARD OF 'groatlaw11.SpecValues'. -/
def specValuesCard : Claim7 := { stood := { row := specValuesRow, standIns := [], harness := (true, "efa37e4d27e111d9f0fde7cbb34bcaa0100ed61938672ac280fab6f5e30879dd"), looks := false }, kinds := [], alts := [], laidByText := true, laidKinds := [.data], laidTests := true, laidLooks := .later }
def SpecValuesCardSaid : Prop := Claim7.holds Tryd.pinned (.plain (OpenSpec.ofChange specValuesSpec)) specValuesCard

/-- THE TIED CARD OF 'groatlaw11.SpecBounds'. -/
def specBoundsCard : Claim7 := { stood := { row := specBoundsRow, standIns := [], harness := (true, "efa37e4d27e111d9f0fde7cbb34bcaa0100ed61938672ac280fab6f5e30879dd"), looks := false }, kinds := [], alts := [], laidByText := true, laidKinds := [.data], laidTests := true, laidLooks := .later }
def SpecBoundsCardSaid : Prop := Claim7.holds Tryd.pinned (.plain (OpenSpec.ofChange specBoundsSpec)) specBoundsCard

/-- THE TIED CARD OF 'groatlaw11.SpecWider'. -/
def specWiderCard : Claim7 := { stood := { row := specWiderRow, standIns := [], harness := (true, "efa37e4d27e111d9f0fde7cbb34bcaa0100ed61938672ac280fab6f5e30879dd"), looks := false }, kinds := [], alts := [], laidByText := true, laidKinds := [.data], laidTests := true, laidLooks := .later }
def SpecWiderCardSaid : Prop := Claim7.holds Tryd.pinned (.plain (OpenSpec.ofChange specWiderSpec)) specWiderCard

/-- THE TIED CARD OF 'groatlaw11.SpecKeeps'. -/
def specKeepsCard : Claim7 := { stood := { row := specKeepsRow, standIns := [], harness := (true, "efa37e4d27e111d9f0fde7cbb34bcaa0100ed61938672ac280fab6f5e30879dd"), looks := false }, kinds := [], alts := [], laidByText := true, laidKinds := [.data], laidTests := true, laidLooks := .later }
def SpecKeepsCardSaid : Prop := Claim7.holds Tryd.pinned (.plain (OpenSpec.ofChange specKeepsSpec)) specKeepsCard

/-- THE SECOND FORM's CARD OF 'groatlaw11.SpecChecks'. -/
def specChecksUptoCard : Claim7 := { stood := { row := specChecksUptoRow, standIns := [], harness := (true, "efa37e4d27e111d9f0fde7cbb34bcaa0100ed61938672ac280fab6f5e30879dd"), looks := false }, kinds := [], alts := [], laidByText := true, laidKinds := [.data], laidTests := true, laidLooks := .later }
def SpecChecksUptoCardSaid : Prop := Claim7.holds Tryd.pinned (.plain (OpenSpec.upto specChecksSpec)) specChecksUptoCard

/-- THE SECOND FORM's CARD OF 'groatlaw11.SpecValues'. -/
def specValuesUptoCard : Claim7 := { stood := { row := specValuesUptoRow, standIns := [], harness := (true, "efa37e4d27e111d9f0fde7cbb34bcaa0100ed61938672ac280fab6f5e30879dd"), looks := false }, kinds := [], alts := [], laidByText := true, laidKinds := [.data], laidTests := true, laidLooks := .later }
def SpecValuesUptoCardSaid : Prop := Claim7.holds Tryd.pinned (.plain (OpenSpec.upto specValuesSpec)) specValuesUptoCard

/-- THE SECOND FORM's CARD OF 'groatlaw11.SpecBounds'. -/
def specBoundsUptoCard : Claim7 := { stood := { row := specBoundsUptoRow, standIns := [], harness := (true, "efa37e4d27e111d9f0fde7cbb34bcaa0100ed61938672ac280fab6f5e30879dd"), looks := false }, kinds := [], alts := [], laidByText := true, laidKinds := [.data], laidTests := true, laidLooks := .later }
def SpecBoundsUptoCardSaid : Prop := Claim7.holds Tryd.pinned (.plain (OpenSpec.upto specBoundsSpec)) specBoundsUptoCard

/-- THE SECOND FORM's CARD OF 'groatlaw11.SpecWider'. -/
def specWiderUptoCard : Claim7 := { stood := { row := specWiderUptoRow, standIns := [], harness := (true, "efa37e4d27e111d9f0fde7cbb34bcaa0100ed61938672ac280fab6f5e30879dd"), looks := false }, kinds := [], alts := [], laidByText := true, laidKinds := [.data], laidTests := true, laidLooks := .later }
def SpecWiderUptoCardSaid : Prop := Claim7.holds Tryd.pinned (.plain (OpenSpec.upto specWiderSpec)) specWiderUptoCard

/-- THE SECOND FORM's CARD OF 'groatlaw11.SpecKeeps'. -/
def specKeepsUptoCard : Claim7 := { stood := { row := specKeepsUptoRow, standIns := [], harness := (true, "efa37e4d27e111d9f0fde7cbb34bcaa0100ed61938672ac280fab6f5e30879dd"), looks := false }, kinds := [], alts := [], laidByText := true, laidKinds := [.data], laidTests := true, laidLooks := .later }
def SpecKeepsUptoCardSaid : Prop := Claim7.holds Tryd.pinned (.plain (OpenSpec.upto specKeepsSpec)) specKeepsUptoCard
end Rows
end Go.Proofs.YtmobillfeldcjaaDoor
