/-
  DERIVED. GIVEN WITH THE SEED: THE CARDS: each row of YtckapcafpnlnoaaDoorRows.lean that lists a variable, with what it lists TIED to the program's text (the seventh form; the later family's looks); each row that meets fmt, with fmt's text TOLD by the authors' own Lean function (tested against real Go, not proved from fmt's source: count such statements apart). THE CARD IS WHAT COUNTS. Prove the row's statement (the work); the ties are given (YtckapcafpnlnoaaDoorTie.lean); close each card by the builder's one call (the guide's Derived/Test/ToyasCard.lean, 'card_holds'). Laid BY PROGRAM, IN A SANDBOX (cutbox-door.mjs). By AI agents, Wed Nov 11 2026. No macro, syntax, notation, axiom, sorry.
-/
import Derived.Test.YtckapcafpnlnoaaDoorRows
import GoSem.ClaimSeven
namespace Go.Proofs.YtckapcafpnlnoaaDoor
namespace Rows

/-- THE TIED CARD OF 'groatlaw17.WireTypes'. -/
def wireTypesCard : Claim7 := { stood := { row := wireTypesRow, standIns := [], harness := (true, "98ff8681c3387ad20e283a32fbe63c4ab8a0ced1b272a52d42b1b6d154514f4f"), looks := false }, kinds := [], alts := [], laidByText := true, laidKinds := [.data], laidTests := true, laidLooks := .later }
def WireTypesCardSaid : Prop := Claim7.holds Tryd.pinned (.plain (OpenSpec.ofChange wireTypesSpec)) wireTypesCard

/-- THE TIED CARD OF 'groatlaw17.WireEncodes'. -/
def wireEncodesCard : Claim7 := { stood := { row := wireEncodesRow, standIns := [], harness := (true, "98ff8681c3387ad20e283a32fbe63c4ab8a0ced1b272a52d42b1b6d154514f4f"), looks := false }, kinds := [], alts := [], laidByText := true, laidKinds := [.data], laidTests := true, laidLooks := .later }
def WireEncodesCardSaid : Prop := Claim7.holds Tryd.pinned (.plain (OpenSpec.ofChange wireEncodesSpec)) wireEncodesCard

/-- THE TIED CARD OF 'groatlaw17.WireParts'. -/
def wirePartsCard : Claim7 := { stood := { row := wirePartsRow, standIns := [], harness := (true, "98ff8681c3387ad20e283a32fbe63c4ab8a0ced1b272a52d42b1b6d154514f4f"), looks := false }, kinds := [], alts := [], laidByText := true, laidKinds := [.data], laidTests := true, laidLooks := .later }
def WirePartsCardSaid : Prop := Claim7.holds Tryd.pinned (.plain (OpenSpec.ofChange wirePartsSpec)) wirePartsCard

/-- THE TIED CARD OF 'groatlaw17.WireApart'. -/
def wireApartCard : Claim7 := { stood := { row := wireApartRow, standIns := [], harness := (true, "98ff8681c3387ad20e283a32fbe63c4ab8a0ced1b272a52d42b1b6d154514f4f"), looks := false }, kinds := [], alts := [], laidByText := true, laidKinds := [.data], laidTests := true, laidLooks := .later }
def WireApartCardSaid : Prop := Claim7.holds Tryd.pinned (.plain (OpenSpec.ofChange wireApartSpec)) wireApartCard

/-- THE TIED CARD OF 'groatlaw17.WireAdds'. -/
def wireAddsCard : Claim7 := { stood := { row := wireAddsRow, standIns := [], harness := (true, "98ff8681c3387ad20e283a32fbe63c4ab8a0ced1b272a52d42b1b6d154514f4f"), looks := false }, kinds := [], alts := [], laidByText := true, laidKinds := [.data], laidTests := true, laidLooks := .later }
def WireAddsCardSaid : Prop := Claim7.holds Tryd.pinned (.plain (OpenSpec.ofChange wireAddsSpec)) wireAddsCard

/-- THE SECOND FORM's CARD OF 'groatlaw17.WireTypes'. -/
def wireTypesUptoCard : Claim7 := { stood := { row := wireTypesUptoRow, standIns := [], harness := (true, "98ff8681c3387ad20e283a32fbe63c4ab8a0ced1b272a52d42b1b6d154514f4f"), looks := false }, kinds := [], alts := [], laidByText := true, laidKinds := [.data], laidTests := true, laidLooks := .later }
def WireTypesUptoCardSaid : Prop := Claim7.holds Tryd.pinned (.plain (OpenSpec.upto wireTypesSpec)) wireTypesUptoCard

/-- THE SECOND FORM's CARD OF 'groatlaw17.WireEncodes'. -/
def wireEncodesUptoCard : Claim7 := { stood := { row := wireEncodesUptoRow, standIns := [], harness := (true, "98ff8681c3387ad20e283a32fbe63c4ab8a0ced1b272a52d42b1b6d154514f4f"), looks := false }, kinds := [], alts := [], laidByText := true, laidKinds := [.data], laidTests := true, laidLooks := .later }
def WireEncodesUptoCardSaid : Prop := Claim7.holds Tryd.pinned (.plain (OpenSpec.upto wireEncodesSpec)) wireEncodesUptoCard

/-- THE SECOND FORM's CARD OF 'groatlaw17.WireParts'. -/
def wirePartsUptoCard : Claim7 := { stood := { row := wirePartsUptoRow, standIns := [], harness := (true, "98ff8681c3387ad20e283a32fbe63c4ab8a0ced1b272a52d42b1b6d154514f4f"), looks := false }, kinds := [], alts := [], laidByText := true, laidKinds := [.data], laidTests := true, laidLooks := .later }
def WirePartsUptoCardSaid : Prop := Claim7.holds Tryd.pinned (.plain (OpenSpec.upto wirePartsSpec)) wirePartsUptoCard

/-- THE SECOND FORM's CARD OF 'groatlaw17.WireApart'. -/
def wireApartUptoCard : Claim7 := { stood := { row := wireApartUptoRow, standIns := [], harness := (true, "98ff8681c3387ad20e283a32fbe63c4ab8a0ced1b272a52d42b1b6d154514f4f"), looks := false }, kinds := [], alts := [], laidByText := true, laidKinds := [.data], laidTests := true, laidLooks := .later }
def WireApartUptoCardSaid : Prop := Claim7.holds Tryd.pinned (.plain (OpenSpec.upto wireApartSpec)) wireApartUptoCard

/-- THE SECOND FORM's CARD OF 'groatlaw17.WireAdds'. -/
def wireAddsUptoCard : Claim7 := { stood := { row := wireAddsUptoRow, standIns := [], harness := (true, "98ff8681c3387ad20e283a32fbe63c4ab8a0ced1b272a52d42b1b6d154514f4f"), looks := false }, kinds := [], alts := [], laidByText := true, laidKinds := [.data], laidTests := true, laidLooks := .later }
def WireAddsUptoCardSaid : Prop := Claim7.holds Tryd.pinned (.plain (OpenSpec.upto wireAddsSpec)) wireAddsUptoCard
end Rows
end Go.Proofs.YtckapcafpnlnoaaDoor
