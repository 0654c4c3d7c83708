/-
  DERIVED. GIVEN WITH THE SEED: THE CARDS: each row of YtnbllngljgmebaaDoorRows.lean that lists a variable, with what it lists TIED to the program's text (the seventh form; the later family's looks); each row that meets fmt, with fmt's text TOLD by the authors' own Lean function (tested against real Go, not proved from fmt's source: count such statements apart). THE CARD IS WHAT COUNTS. Prove the row's statement (the work); the ties are given (YtnbllngljgmebaaDoorTie.lean); close each card by the builder's one call (the guide's Derived/Test/ToyasCard.lean, 'card_holds'). Laid BY PROGRAM, IN A SANDBOX (cutbox-door.mjs). By AI agents, Wed Nov 11 2026. No macro, syntax, notation, axiom, sorry.
-/
import Derived.Test.YtnbllngljgmebaaDoorRows
import GoSem.ClaimSeven
namespace Go.Proofs.YtnbllngljgmebaaDoor
namespace Rows

/-- THE TIED CARD OF 'groatlaw23.RejectChecks'. -/
def rejectChecksCard : Claim7 := { stood := { row := rejectChecksRow, standIns := [], harness := (true, "aadd83ee913d04d8e13ea132d7cbc396460f9fc709f5ebd9313e14b228aa3bc3"), looks := false }, kinds := [], alts := [], laidByText := true, laidKinds := [.data], laidTests := true, laidLooks := .later }
def RejectChecksCardSaid : Prop := Claim7.holds Tryd.pinned (.plain (OpenSpec.ofChange rejectChecksSpec)) rejectChecksCard

/-- THE TIED CARD OF 'groatlaw23.RejectCodes'. -/
def rejectCodesCard : Claim7 := { stood := { row := rejectCodesRow, standIns := [], harness := (true, "aadd83ee913d04d8e13ea132d7cbc396460f9fc709f5ebd9313e14b228aa3bc3"), looks := false }, kinds := [], alts := [], laidByText := true, laidKinds := [.data], laidTests := true, laidLooks := .later }
def RejectCodesCardSaid : Prop := Claim7.holds Tryd.pinned (.plain (OpenSpec.ofChange rejectCodesSpec)) rejectCodesCard

/-- THE TIED CARD OF 'groatlaw23.RejectBuilds'. -/
def rejectBuildsCard : Claim7 := { stood := { row := rejectBuildsRow, standIns := [], harness := (true, "aadd83ee913d04d8e13ea132d7cbc396460f9fc709f5ebd9313e14b228aa3bc3"), looks := false }, kinds := [], alts := [], laidByText := true, laidKinds := [.data], laidTests := true, laidLooks := .later }
def RejectBuildsCardSaid : Prop := Claim7.holds Tryd.pinned (.plain (OpenSpec.ofChange rejectBuildsSpec)) rejectBuildsCard

/-- THE TIED CARD OF 'groatlaw23.RejectValid'. -/
def rejectValidCard : Claim7 := { stood := { row := rejectValidRow, standIns := [], harness := (true, "aadd83ee913d04d8e13ea132d7cbc396460f9fc709f5ebd9313e14b228aa3bc3"), looks := false }, kinds := [], alts := [], laidByText := true, laidKinds := [.data], laidTests := true, laidLooks := .later }
def RejectValidCardSaid : Prop := Claim7.holds Tryd.pinned (.plain (OpenSpec.ofChange rejectValidSpec)) rejectValidCard

/-- THE TIED CARD OF 'groatlaw23.RejectEchoes'. -/
def rejectEchoesCard : Claim7 := { stood := { row := rejectEchoesRow, standIns := [], harness := (true, "aadd83ee913d04d8e13ea132d7cbc396460f9fc709f5ebd9313e14b228aa3bc3"), looks := false }, kinds := [], alts := [], laidByText := true, laidKinds := [.data], laidTests := true, laidLooks := .later }
def RejectEchoesCardSaid : Prop := Claim7.holds Tryd.pinned (.plain (OpenSpec.ofChange rejectEchoesSpec)) rejectEchoesCard

/-- THE SECOND FORM's CARD OF 'groatlaw23.RejectChecks'. -/
def rejectChecksUptoCard : Claim7 := { stood := { row := rejectChecksUptoRow, standIns := [], harness := (true, "aadd83ee913d04d8e13ea132d7cbc396460f9fc709f5ebd9313e14b228aa3bc3"), looks := false }, kinds := [], alts := [], laidByText := true, laidKinds := [.data], laidTests := true, laidLooks := .later }
def RejectChecksUptoCardSaid : Prop := Claim7.holds Tryd.pinned (.plain (OpenSpec.upto rejectChecksSpec)) rejectChecksUptoCard

/-- THE SECOND FORM's CARD OF 'groatlaw23.RejectCodes'. -/
def rejectCodesUptoCard : Claim7 := { stood := { row := rejectCodesUptoRow, standIns := [], harness := (true, "aadd83ee913d04d8e13ea132d7cbc396460f9fc709f5ebd9313e14b228aa3bc3"), looks := false }, kinds := [], alts := [], laidByText := true, laidKinds := [.data], laidTests := true, laidLooks := .later }
def RejectCodesUptoCardSaid : Prop := Claim7.holds Tryd.pinned (.plain (OpenSpec.upto rejectCodesSpec)) rejectCodesUptoCard

/-- THE SECOND FORM's CARD OF 'groatlaw23.RejectBuilds'. -/
def rejectBuildsUptoCard : Claim7 := { stood := { row := rejectBuildsUptoRow, standIns := [], harness := (true, "aadd83ee913d04d8e13ea132d7cbc396460f9fc709f5ebd9313e14b228aa3bc3"), looks := false }, kinds := [], alts := [], laidByText := true, laidKinds := [.data], laidTests := true, laidLooks := .later }
def RejectBuildsUptoCardSaid : Prop := Claim7.holds Tryd.pinned (.plain (OpenSpec.upto rejectBuildsSpec)) rejectBuildsUptoCard

/-- THE SECOND FORM's CARD OF 'groatlaw23.RejectValid'. -/
def rejectValidUptoCard : Claim7 := { stood := { row := rejectValidUptoRow, standIns := [], harness := (true, "aadd83ee913d04d8e13ea132d7cbc396460f9fc709f5ebd9313e14b228aa3bc3"), looks := false }, kinds := [], alts := [], laidByText := true, laidKinds := [.data], laidTests := true, laidLooks := .later }
def RejectValidUptoCardSaid : Prop := Claim7.holds Tryd.pinned (.plain (OpenSpec.upto rejectValidSpec)) rejectValidUptoCard

/-- THE SECOND FORM's CARD OF 'groatlaw23.RejectEchoes'. -/
def rejectEchoesUptoCard : Claim7 := { stood := { row := rejectEchoesUptoRow, standIns := [], harness := (true, "aadd83ee913d04d8e13ea132d7cbc396460f9fc709f5ebd9313e14b228aa3bc3"), looks := false }, kinds := [], alts := [], laidByText := true, laidKinds := [.data], laidTests := true, laidLooks := .later }
def RejectEchoesUptoCardSaid : Prop := Claim7.holds Tryd.pinned (.plain (OpenSpec.upto rejectEchoesSpec)) rejectEchoesUptoCard
end Rows
end Go.Proofs.YtnbllngljgmebaaDoor
