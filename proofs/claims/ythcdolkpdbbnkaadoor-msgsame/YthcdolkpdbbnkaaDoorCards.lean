/-
  DERIVED. GIVEN WITH THE SEED: THE CARDS: each row of YthcdolkpdbbnkaaDoorRows.lean that lists a variable, with what it lists TIED to the program's text (the seventh form; the later family's looks); each row that meets fmt, with fmt's text TOLD by the authors' own Lean function (tested against real Go, not proved from fmt's source: count such statements apart). THE CARD IS WHAT COUNTS. Prove the row's statement (the work); the ties are given (YthcdolkpdbbnkaaDoorTie.lean); close each card by the builder's one call (the guide's Derived/Test/ToyasCard.lean, 'card_holds'). Laid BY PROGRAM, IN A SANDBOX (cutbox-door.mjs). By AI agents, Wed Nov 11 2026. No macro, syntax, notation, axiom, sorry.
-/
import Derived.Test.YthcdolkpdbbnkaaDoorRows
import GoSem.ClaimSeven
namespace Go.Proofs.YthcdolkpdbbnkaaDoor
namespace Rows

/-- THE TIED CARD OF 'groatlaw16.MsgChecks'. -/
def msgChecksCard : Claim7 := { stood := { row := msgChecksRow, standIns := [], harness := (true, "634c4183d54782a36a37e75ea90aa83a6e8c4d1e631389d4da04231a8f36043a"), looks := false }, kinds := [], alts := [], laidByText := true, laidKinds := [.data], laidTests := true, laidLooks := .later }
def MsgChecksCardSaid : Prop := Claim7.holds Tryd.pinned (.plain (OpenSpec.ofChange msgChecksSpec)) msgChecksCard

/-- THE TIED CARD OF 'groatlaw16.MsgGets'. -/
def msgGetsCard : Claim7 := { stood := { row := msgGetsRow, standIns := [], harness := (true, "634c4183d54782a36a37e75ea90aa83a6e8c4d1e631389d4da04231a8f36043a"), looks := false }, kinds := [], alts := [], laidByText := true, laidKinds := [.data], laidTests := true, laidLooks := .later }
def MsgGetsCardSaid : Prop := Claim7.holds Tryd.pinned (.plain (OpenSpec.ofChange msgGetsSpec)) msgGetsCard

/-- THE TIED CARD OF 'groatlaw16.MsgWith'. -/
def msgWithCard : Claim7 := { stood := { row := msgWithRow, standIns := [], harness := (true, "634c4183d54782a36a37e75ea90aa83a6e8c4d1e631389d4da04231a8f36043a"), looks := false }, kinds := [], alts := [], laidByText := true, laidKinds := [.data], laidTests := true, laidLooks := .later }
def MsgWithCardSaid : Prop := Claim7.holds Tryd.pinned (.plain (OpenSpec.ofChange msgWithSpec)) msgWithCard

/-- THE TIED CARD OF 'groatlaw16.MsgSame'. -/
def msgSameCard : Claim7 := { stood := { row := msgSameRow, standIns := [], harness := (true, "634c4183d54782a36a37e75ea90aa83a6e8c4d1e631389d4da04231a8f36043a"), looks := false }, kinds := [], alts := [], laidByText := true, laidKinds := [.data], laidTests := true, laidLooks := .later }
def MsgSameCardSaid : Prop := Claim7.holds Tryd.pinned (.plain (OpenSpec.ofChange msgSameSpec)) msgSameCard

/-- THE TIED CARD OF 'groatlaw16.MsgValid'. -/
def msgValidCard : Claim7 := { stood := { row := msgValidRow, standIns := [], harness := (true, "634c4183d54782a36a37e75ea90aa83a6e8c4d1e631389d4da04231a8f36043a"), looks := false }, kinds := [], alts := [], laidByText := true, laidKinds := [.data], laidTests := true, laidLooks := .later }
def MsgValidCardSaid : Prop := Claim7.holds Tryd.pinned (.plain (OpenSpec.ofChange msgValidSpec)) msgValidCard

/-- THE SECOND FORM's CARD OF 'groatlaw16.MsgChecks'. -/
def msgChecksUptoCard : Claim7 := { stood := { row := msgChecksUptoRow, standIns := [], harness := (true, "634c4183d54782a36a37e75ea90aa83a6e8c4d1e631389d4da04231a8f36043a"), looks := false }, kinds := [], alts := [], laidByText := true, laidKinds := [.data], laidTests := true, laidLooks := .later }
def MsgChecksUptoCardSaid : Prop := Claim7.holds Tryd.pinned (.plain (OpenSpec.upto msgChecksSpec)) msgChecksUptoCard

/-- THE SECOND FORM's CARD OF 'groatlaw16.MsgGets'. -/
def msgGetsUptoCard : Claim7 := { stood := { row := msgGetsUptoRow, standIns := [], harness := (true, "634c4183d54782a36a37e75ea90aa83a6e8c4d1e631389d4da04231a8f36043a"), looks := false }, kinds := [], alts := [], laidByText := true, laidKinds := [.data], laidTests := true, laidLooks := .later }
def MsgGetsUptoCardSaid : Prop := Claim7.holds Tryd.pinned (.plain (OpenSpec.upto msgGetsSpec)) msgGetsUptoCard

/-- THE SECOND FORM's CARD OF 'groatlaw16.MsgWith'. -/
def msgWithUptoCard : Claim7 := { stood := { row := msgWithUptoRow, standIns := [], harness := (true, "634c4183d54782a36a37e75ea90aa83a6e8c4d1e631389d4da04231a8f36043a"), looks := false }, kinds := [], alts := [], laidByText := true, laidKinds := [.data], laidTests := true, laidLooks := .later }
def MsgWithUptoCardSaid : Prop := Claim7.holds Tryd.pinned (.plain (OpenSpec.upto msgWithSpec)) msgWithUptoCard

/-- THE SECOND FORM's CARD OF 'groatlaw16.MsgSame'. -/
def msgSameUptoCard : Claim7 := { stood := { row := msgSameUptoRow, standIns := [], harness := (true, "634c4183d54782a36a37e75ea90aa83a6e8c4d1e631389d4da04231a8f36043a"), looks := false }, kinds := [], alts := [], laidByText := true, laidKinds := [.data], laidTests := true, laidLooks := .later }
def MsgSameUptoCardSaid : Prop := Claim7.holds Tryd.pinned (.plain (OpenSpec.upto msgSameSpec)) msgSameUptoCard

/-- THE SECOND FORM's CARD OF 'groatlaw16.MsgValid'. -/
def msgValidUptoCard : Claim7 := { stood := { row := msgValidUptoRow, standIns := [], harness := (true, "634c4183d54782a36a37e75ea90aa83a6e8c4d1e631389d4da04231a8f36043a"), looks := false }, kinds := [], alts := [], laidByText := true, laidKinds := [.data], laidTests := true, laidLooks := .later }
def MsgValidUptoCardSaid : Prop := Claim7.holds Tryd.pinned (.plain (OpenSpec.upto msgValidSpec)) msgValidUptoCard
end Rows
end Go.Proofs.YthcdolkpdbbnkaaDoor
