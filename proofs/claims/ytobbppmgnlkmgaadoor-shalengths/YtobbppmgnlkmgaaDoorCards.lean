/-
  DERIVED. GIVEN WITH THE SEED: THE CARDS: each row of YtobbppmgnlkmgaaDoorRows.lean that lists a variable, with what it lists TIED to the program's text (the seventh form; the later family's looks); each row that meets fmt, with fmt's text TOLD by the authors' own Lean function (tested against real Go, not proved from fmt's source: count such statements apart). THE CARD IS WHAT COUNTS. Prove the row's statement (the work); the ties are given (YtobbppmgnlkmgaaDoorTie.lean); close each card by the builder's one call (the guide's Derived/Test/ToyasCard.lean, 'card_holds'). Laid BY PROGRAM, IN A SANDBOX (cutbox-door.mjs). By AI agents, Wed Nov 11 2026. No macro, syntax, notation, axiom, sorry.
-/
import Derived.Test.YtobbppmgnlkmgaaDoorRows
import GoSem.ClaimSeven
namespace Go.Proofs.YtobbppmgnlkmgaaDoor
namespace Rows

/-- THE TIED CARD OF 'kedgelaw04.ShaSums'. -/
def shaSumsCard : Claim7 := { stood := { row := shaSumsRow, standIns := [], harness := (true, "a9d43ede76207c88c5447ec26e71c8029676b0432faddadd00ad60b4972f157d"), looks := false }, kinds := [], alts := [], laidByText := true, laidKinds := [.data, .data], laidTests := true, laidLooks := .later }
def ShaSumsCardSaid : Prop := Claim7.holds Tryd.pinned (.plain (OpenSpec.ofChange shaSumsSpec)) shaSumsCard

/-- THE TIED CARD OF 'kedgelaw04.ShaTwice'. -/
def shaTwiceCard : Claim7 := { stood := { row := shaTwiceRow, standIns := [], harness := (true, "a9d43ede76207c88c5447ec26e71c8029676b0432faddadd00ad60b4972f157d"), looks := false }, kinds := [], alts := [], laidByText := true, laidKinds := [.data, .data], laidTests := true, laidLooks := .later }
def ShaTwiceCardSaid : Prop := Claim7.holds Tryd.pinned (.plain (OpenSpec.ofChange shaTwiceSpec)) shaTwiceCard

/-- THE TIED CARD OF 'kedgelaw04.ShaLengths'. -/
def shaLengthsCard : Claim7 := { stood := { row := shaLengthsRow, standIns := [], harness := (true, "a9d43ede76207c88c5447ec26e71c8029676b0432faddadd00ad60b4972f157d"), looks := false }, kinds := [], alts := [], laidByText := true, laidKinds := [.data, .data], laidTests := true, laidLooks := .later }
def ShaLengthsCardSaid : Prop := Claim7.holds Tryd.pinned (.plain (OpenSpec.ofChange shaLengthsSpec)) shaLengthsCard

/-- THE SECOND FORM's CARD OF 'kedgelaw04.ShaSums'. -/
def shaSumsUptoCard : Claim7 := { stood := { row := shaSumsUptoRow, standIns := [], harness := (true, "a9d43ede76207c88c5447ec26e71c8029676b0432faddadd00ad60b4972f157d"), looks := false }, kinds := [], alts := [], laidByText := true, laidKinds := [.data, .data], laidTests := true, laidLooks := .later }
def ShaSumsUptoCardSaid : Prop := Claim7.holds Tryd.pinned (.plain (OpenSpec.upto shaSumsSpec)) shaSumsUptoCard

/-- THE SECOND FORM's CARD OF 'kedgelaw04.ShaTwice'. -/
def shaTwiceUptoCard : Claim7 := { stood := { row := shaTwiceUptoRow, standIns := [], harness := (true, "a9d43ede76207c88c5447ec26e71c8029676b0432faddadd00ad60b4972f157d"), looks := false }, kinds := [], alts := [], laidByText := true, laidKinds := [.data, .data], laidTests := true, laidLooks := .later }
def ShaTwiceUptoCardSaid : Prop := Claim7.holds Tryd.pinned (.plain (OpenSpec.upto shaTwiceSpec)) shaTwiceUptoCard

/-- THE SECOND FORM's CARD OF 'kedgelaw04.ShaLengths'. -/
def shaLengthsUptoCard : Claim7 := { stood := { row := shaLengthsUptoRow, standIns := [], harness := (true, "a9d43ede76207c88c5447ec26e71c8029676b0432faddadd00ad60b4972f157d"), looks := false }, kinds := [], alts := [], laidByText := true, laidKinds := [.data, .data], laidTests := true, laidLooks := .later }
def ShaLengthsUptoCardSaid : Prop := Claim7.holds Tryd.pinned (.plain (OpenSpec.upto shaLengthsSpec)) shaLengthsUptoCard
end Rows
end Go.Proofs.YtobbppmgnlkmgaaDoor
