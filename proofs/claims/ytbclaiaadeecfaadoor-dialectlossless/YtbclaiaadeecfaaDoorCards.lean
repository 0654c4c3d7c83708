/-
  DERIVED. GIVEN WITH THE SEED: THE CARDS: each row of YtbclaiaadeecfaaDoorRows.lean that lists a variable, with what it lists TIED to the program's text (the seventh form; the later family's looks); each row that meets fmt, with fmt's text TOLD by the authors' own Lean function (tested against real Go, not proved from fmt's source: count such statements apart). THE CARD IS WHAT COUNTS. Prove the row's statement (the work); the ties are given (YtbclaiaadeecfaaDoorTie.lean); close each card by the builder's one call (the guide's Derived/Test/ToyasCard.lean, 'card_holds'). Laid BY PROGRAM, IN A SANDBOX (cutbox-door.mjs). By AI agents, Wed Nov 11 2026. No macro, syntax, notation, axiom, sorry.
-/
import Derived.Test.YtbclaiaadeecfaaDoorRows
import GoSem.ClaimSeven
namespace Go.Proofs.YtbclaiaadeecfaaDoor
namespace Rows

/-- THE TIED CARD OF 'groatlaw14.DialectFields'. -/
def dialectFieldsCard : Claim7 := { stood := { row := dialectFieldsRow, standIns := [], harness := (true, "671f1bd67423e1c88c9e11c2420ba3cd210c54b4ea58288408ae972bd8a118e0"), looks := false }, kinds := [], alts := [], laidByText := true, laidKinds := [.data, .data], laidTests := true, laidLooks := .later }
def DialectFieldsCardSaid : Prop := Claim7.holds Tryd.pinned (.plain (OpenSpec.ofChange dialectFieldsSpec)) dialectFieldsCard

/-- THE TIED CARD OF 'groatlaw14.DialectRight'. -/
def dialectRightCard : Claim7 := { stood := { row := dialectRightRow, standIns := [], harness := (true, "671f1bd67423e1c88c9e11c2420ba3cd210c54b4ea58288408ae972bd8a118e0"), looks := false }, kinds := [], alts := [], laidByText := true, laidKinds := [.data, .data], laidTests := true, laidLooks := .later }
def DialectRightCardSaid : Prop := Claim7.holds Tryd.pinned (.plain (OpenSpec.ofChange dialectRightSpec)) dialectRightCard

/-- THE TIED CARD OF 'groatlaw14.DialectOwn'. -/
def dialectOwnCard : Claim7 := { stood := { row := dialectOwnRow, standIns := [], harness := (true, "671f1bd67423e1c88c9e11c2420ba3cd210c54b4ea58288408ae972bd8a118e0"), looks := false }, kinds := [], alts := [], laidByText := true, laidKinds := [.data, .data], laidTests := true, laidLooks := .later }
def DialectOwnCardSaid : Prop := Claim7.holds Tryd.pinned (.plain (OpenSpec.ofChange dialectOwnSpec)) dialectOwnCard

/-- THE TIED CARD OF 'groatlaw14.DialectLossless'. -/
def dialectLosslessCard : Claim7 := { stood := { row := dialectLosslessRow, standIns := [], harness := (true, "671f1bd67423e1c88c9e11c2420ba3cd210c54b4ea58288408ae972bd8a118e0"), looks := false }, kinds := [], alts := [], laidByText := true, laidKinds := [.data, .data], laidTests := true, laidLooks := .later }
def DialectLosslessCardSaid : Prop := Claim7.holds Tryd.pinned (.plain (OpenSpec.ofChange dialectLosslessSpec)) dialectLosslessCard

/-- THE SECOND FORM's CARD OF 'groatlaw14.DialectFields'. -/
def dialectFieldsUptoCard : Claim7 := { stood := { row := dialectFieldsUptoRow, standIns := [], harness := (true, "671f1bd67423e1c88c9e11c2420ba3cd210c54b4ea58288408ae972bd8a118e0"), looks := false }, kinds := [], alts := [], laidByText := true, laidKinds := [.data, .data], laidTests := true, laidLooks := .later }
def DialectFieldsUptoCardSaid : Prop := Claim7.holds Tryd.pinned (.plain (OpenSpec.upto dialectFieldsSpec)) dialectFieldsUptoCard

/-- THE SECOND FORM's CARD OF 'groatlaw14.DialectRight'. -/
def dialectRightUptoCard : Claim7 := { stood := { row := dialectRightUptoRow, standIns := [], harness := (true, "671f1bd67423e1c88c9e11c2420ba3cd210c54b4ea58288408ae972bd8a118e0"), looks := false }, kinds := [], alts := [], laidByText := true, laidKinds := [.data, .data], laidTests := true, laidLooks := .later }
def DialectRightUptoCardSaid : Prop := Claim7.holds Tryd.pinned (.plain (OpenSpec.upto dialectRightSpec)) dialectRightUptoCard

/-- THE SECOND FORM's CARD OF 'groatlaw14.DialectOwn'. -/
def dialectOwnUptoCard : Claim7 := { stood := { row := dialectOwnUptoRow, standIns := [], harness := (true, "671f1bd67423e1c88c9e11c2420ba3cd210c54b4ea58288408ae972bd8a118e0"), looks := false }, kinds := [], alts := [], laidByText := true, laidKinds := [.data, .data], laidTests := true, laidLooks := .later }
def DialectOwnUptoCardSaid : Prop := Claim7.holds Tryd.pinned (.plain (OpenSpec.upto dialectOwnSpec)) dialectOwnUptoCard

/-- THE SECOND FORM's CARD OF 'groatlaw14.DialectLossless'. -/
def dialectLosslessUptoCard : Claim7 := { stood := { row := dialectLosslessUptoRow, standIns := [], harness := (true, "671f1bd67423e1c88c9e11c2420ba3cd210c54b4ea58288408ae972bd8a118e0"), looks := false }, kinds := [], alts := [], laidByText := true, laidKinds := [.data, .data], laidTests := true, laidLooks := .later }
def DialectLosslessUptoCardSaid : Prop := Claim7.holds Tryd.pinned (.plain (OpenSpec.upto dialectLosslessSpec)) dialectLosslessUptoCard
end Rows
end Go.Proofs.YtbclaiaadeecfaaDoor
