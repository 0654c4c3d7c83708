/-
  DERIVED. GIVEN WITH THE SEED: THE CARDS: each row of YtibdaihfelgodaaDoorRows.lean that lists a variable, with what it lists TIED to the program's text (the seventh form; the later family's looks); each row that meets fmt, with fmt's text TOLD by the authors' own Lean function (tested against real Go, not proved from fmt's source: count such statements apart). THE CARD IS WHAT COUNTS. Prove the row's statement (the work); the ties are given (YtibdaihfelgodaaDoorTie.lean); close each card by the builder's one call (the guide's Derived/Test/ToyasCard.lean, 'card_holds'). Laid BY PROGRAM, IN A SANDBOX (cutbox-door.mjs). By AI agents, Wed Nov 11 2026. No macro, syntax, notation, axiom, sorry.
-/
import Derived.Test.YtibdaihfelgodaaDoorRows
import GoSem.ClaimSeven
namespace Go.Proofs.YtibdaihfelgodaaDoor
namespace Rows

/-- THE TIED CARD OF 'groatlaw04.ClassTells'. -/
def classTellsCard : Claim7 := { stood := { row := classTellsRow, standIns := [], harness := (true, "f0cc696a27c53c8263ee731e4c9e4540c3ee841a39d82fd0d5a2f83f96b9ca48"), looks := false }, kinds := [], alts := [], laidByText := true, laidKinds := [.data], laidTests := true, laidLooks := .later }
def ClassTellsCardSaid : Prop := Claim7.holds Tryd.pinned (.plain (OpenSpec.ofChange classTellsSpec)) classTellsCard

/-- THE TIED CARD OF 'groatlaw04.ClassFirst'. -/
def classFirstCard : Claim7 := { stood := { row := classFirstRow, standIns := [], harness := (true, "f0cc696a27c53c8263ee731e4c9e4540c3ee841a39d82fd0d5a2f83f96b9ca48"), looks := false }, kinds := [], alts := [], laidByText := true, laidKinds := [.data], laidTests := true, laidLooks := .later }
def ClassFirstCardSaid : Prop := Claim7.holds Tryd.pinned (.plain (OpenSpec.ofChange classFirstSpec)) classFirstCard

/-- THE TIED CARD OF 'groatlaw04.ClassWider'. -/
def classWiderCard : Claim7 := { stood := { row := classWiderRow, standIns := [], harness := (true, "f0cc696a27c53c8263ee731e4c9e4540c3ee841a39d82fd0d5a2f83f96b9ca48"), looks := false }, kinds := [], alts := [], laidByText := true, laidKinds := [.data], laidTests := true, laidLooks := .later }
def ClassWiderCardSaid : Prop := Claim7.holds Tryd.pinned (.plain (OpenSpec.ofChange classWiderSpec)) classWiderCard

/-- THE TIED CARD OF 'groatlaw04.ClassKeeps'. -/
def classKeepsCard : Claim7 := { stood := { row := classKeepsRow, standIns := [], harness := (true, "f0cc696a27c53c8263ee731e4c9e4540c3ee841a39d82fd0d5a2f83f96b9ca48"), looks := false }, kinds := [], alts := [], laidByText := true, laidKinds := [.data], laidTests := true, laidLooks := .later }
def ClassKeepsCardSaid : Prop := Claim7.holds Tryd.pinned (.plain (OpenSpec.ofChange classKeepsSpec)) classKeepsCard

/-- THE TIED CARD OF 'groatlaw04.ClassParts'. -/
def classPartsCard : Claim7 := { stood := { row := classPartsRow, standIns := [], harness := (true, "f0cc696a27c53c8263ee731e4c9e4540c3ee841a39d82fd0d5a2f83f96b9ca48"), looks := false }, kinds := [], alts := [], laidByText := true, laidKinds := [.data], laidTests := true, laidLooks := .later }
def ClassPartsCardSaid : Prop := Claim7.holds Tryd.pinned (.plain (OpenSpec.ofChange classPartsSpec)) classPartsCard

/-- THE SECOND FORM's CARD OF 'groatlaw04.ClassTells'. -/
def classTellsUptoCard : Claim7 := { stood := { row := classTellsUptoRow, standIns := [], harness := (true, "f0cc696a27c53c8263ee731e4c9e4540c3ee841a39d82fd0d5a2f83f96b9ca48"), looks := false }, kinds := [], alts := [], laidByText := true, laidKinds := [.data], laidTests := true, laidLooks := .later }
def ClassTellsUptoCardSaid : Prop := Claim7.holds Tryd.pinned (.plain (OpenSpec.upto classTellsSpec)) classTellsUptoCard

/-- THE SECOND FORM's CARD OF 'groatlaw04.ClassFirst'. -/
def classFirstUptoCard : Claim7 := { stood := { row := classFirstUptoRow, standIns := [], harness := (true, "f0cc696a27c53c8263ee731e4c9e4540c3ee841a39d82fd0d5a2f83f96b9ca48"), looks := false }, kinds := [], alts := [], laidByText := true, laidKinds := [.data], laidTests := true, laidLooks := .later }
def ClassFirstUptoCardSaid : Prop := Claim7.holds Tryd.pinned (.plain (OpenSpec.upto classFirstSpec)) classFirstUptoCard

/-- THE SECOND FORM's CARD OF 'groatlaw04.ClassWider'. -/
def classWiderUptoCard : Claim7 := { stood := { row := classWiderUptoRow, standIns := [], harness := (true, "f0cc696a27c53c8263ee731e4c9e4540c3ee841a39d82fd0d5a2f83f96b9ca48"), looks := false }, kinds := [], alts := [], laidByText := true, laidKinds := [.data], laidTests := true, laidLooks := .later }
def ClassWiderUptoCardSaid : Prop := Claim7.holds Tryd.pinned (.plain (OpenSpec.upto classWiderSpec)) classWiderUptoCard

/-- THE SECOND FORM's CARD OF 'groatlaw04.ClassKeeps'. -/
def classKeepsUptoCard : Claim7 := { stood := { row := classKeepsUptoRow, standIns := [], harness := (true, "f0cc696a27c53c8263ee731e4c9e4540c3ee841a39d82fd0d5a2f83f96b9ca48"), looks := false }, kinds := [], alts := [], laidByText := true, laidKinds := [.data], laidTests := true, laidLooks := .later }
def ClassKeepsUptoCardSaid : Prop := Claim7.holds Tryd.pinned (.plain (OpenSpec.upto classKeepsSpec)) classKeepsUptoCard

/-- THE SECOND FORM's CARD OF 'groatlaw04.ClassParts'. -/
def classPartsUptoCard : Claim7 := { stood := { row := classPartsUptoRow, standIns := [], harness := (true, "f0cc696a27c53c8263ee731e4c9e4540c3ee841a39d82fd0d5a2f83f96b9ca48"), looks := false }, kinds := [], alts := [], laidByText := true, laidKinds := [.data], laidTests := true, laidLooks := .later }
def ClassPartsUptoCardSaid : Prop := Claim7.holds Tryd.pinned (.plain (OpenSpec.upto classPartsSpec)) classPartsUptoCard
end Rows
end Go.Proofs.YtibdaihfelgodaaDoor
