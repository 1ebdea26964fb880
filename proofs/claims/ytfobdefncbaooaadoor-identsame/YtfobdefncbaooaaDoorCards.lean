/-
  DERIVED. GIVEN WITH THE SEED: THE CARDS: each row of YtfobdefncbaooaaDoorRows.lean that lists a variable, with what it lists TIED to the program's text (the seventh form; the later family's looks); each row that meets fmt, with fmt's text TOLD by the authors' own Lean function (tested against real Go, not proved from fmt's source: count such statements apart). THE CARD IS WHAT COUNTS. Prove the row's statement (the work); the ties are given (YtfobdefncbaooaaDoorTie.lean); close each card by the builder's one call (the guide's Derived/Test/ToyasCard.lean, 'card_holds'). Laid BY PROGRAM, IN A SANDBOX (cutbox-door.mjs). By AI agents, Wed Nov 11 2026. No macro, syntax, notation, axiom, sorry.
-/
import Derived.Test.YtfobdefncbaooaaDoorRows
import GoSem.ClaimSeven
namespace Go.Proofs.YtfobdefncbaooaaDoor
namespace Rows

/-- THE TIED CARD OF 'kedgelaw07.IdentTells'. -/
def identTellsCard : Claim7 := { stood := { row := identTellsRow, standIns := [], harness := (true, "e0800e9b67f6db82c0b6d15cd6327ebc056d61d83ff31ff603886c73030d5e8b"), looks := false }, kinds := [], alts := [], laidByText := true, laidKinds := [.data, .data], laidTests := true, laidLooks := .later }
def IdentTellsCardSaid : Prop := Claim7.holds Tryd.pinned (.plain (OpenSpec.ofChange identTellsSpec)) identTellsCard

/-- THE TIED CARD OF 'kedgelaw07.IdentPays'. -/
def identPaysCard : Claim7 := { stood := { row := identPaysRow, standIns := [], harness := (true, "e0800e9b67f6db82c0b6d15cd6327ebc056d61d83ff31ff603886c73030d5e8b"), looks := false }, kinds := [], alts := [], laidByText := true, laidKinds := [.data, .data], laidTests := true, laidLooks := .later }
def IdentPaysCardSaid : Prop := Claim7.holds Tryd.pinned (.plain (OpenSpec.ofChange identPaysSpec)) identPaysCard

/-- THE TIED CARD OF 'kedgelaw07.IdentSame'. -/
def identSameCard : Claim7 := { stood := { row := identSameRow, standIns := [], harness := (true, "e0800e9b67f6db82c0b6d15cd6327ebc056d61d83ff31ff603886c73030d5e8b"), looks := false }, kinds := [], alts := [], laidByText := true, laidKinds := [.data, .data], laidTests := true, laidLooks := .later }
def IdentSameCardSaid : Prop := Claim7.holds Tryd.pinned (.plain (OpenSpec.ofChange identSameSpec)) identSameCard

/-- THE TIED CARD OF 'kedgelaw07.IdentGrows'. -/
def identGrowsCard : Claim7 := { stood := { row := identGrowsRow, standIns := [], harness := (true, "e0800e9b67f6db82c0b6d15cd6327ebc056d61d83ff31ff603886c73030d5e8b"), looks := false }, kinds := [], alts := [], laidByText := true, laidKinds := [.data, .data], laidTests := true, laidLooks := .later }
def IdentGrowsCardSaid : Prop := Claim7.holds Tryd.pinned (.plain (OpenSpec.ofChange identGrowsSpec)) identGrowsCard

/-- THE SECOND FORM's CARD OF 'kedgelaw07.IdentTells'. -/
def identTellsUptoCard : Claim7 := { stood := { row := identTellsUptoRow, standIns := [], harness := (true, "e0800e9b67f6db82c0b6d15cd6327ebc056d61d83ff31ff603886c73030d5e8b"), looks := false }, kinds := [], alts := [], laidByText := true, laidKinds := [.data, .data], laidTests := true, laidLooks := .later }
def IdentTellsUptoCardSaid : Prop := Claim7.holds Tryd.pinned (.plain (OpenSpec.upto identTellsSpec)) identTellsUptoCard

/-- THE SECOND FORM's CARD OF 'kedgelaw07.IdentPays'. -/
def identPaysUptoCard : Claim7 := { stood := { row := identPaysUptoRow, standIns := [], harness := (true, "e0800e9b67f6db82c0b6d15cd6327ebc056d61d83ff31ff603886c73030d5e8b"), looks := false }, kinds := [], alts := [], laidByText := true, laidKinds := [.data, .data], laidTests := true, laidLooks := .later }
def IdentPaysUptoCardSaid : Prop := Claim7.holds Tryd.pinned (.plain (OpenSpec.upto identPaysSpec)) identPaysUptoCard

/-- THE SECOND FORM's CARD OF 'kedgelaw07.IdentSame'. -/
def identSameUptoCard : Claim7 := { stood := { row := identSameUptoRow, standIns := [], harness := (true, "e0800e9b67f6db82c0b6d15cd6327ebc056d61d83ff31ff603886c73030d5e8b"), looks := false }, kinds := [], alts := [], laidByText := true, laidKinds := [.data, .data], laidTests := true, laidLooks := .later }
def IdentSameUptoCardSaid : Prop := Claim7.holds Tryd.pinned (.plain (OpenSpec.upto identSameSpec)) identSameUptoCard

/-- THE SECOND FORM's CARD OF 'kedgelaw07.IdentGrows'. -/
def identGrowsUptoCard : Claim7 := { stood := { row := identGrowsUptoRow, standIns := [], harness := (true, "e0800e9b67f6db82c0b6d15cd6327ebc056d61d83ff31ff603886c73030d5e8b"), looks := false }, kinds := [], alts := [], laidByText := true, laidKinds := [.data, .data], laidTests := true, laidLooks := .later }
def IdentGrowsUptoCardSaid : Prop := Claim7.holds Tryd.pinned (.plain (OpenSpec.upto identGrowsSpec)) identGrowsUptoCard
end Rows
end Go.Proofs.YtfobdefncbaooaaDoor
