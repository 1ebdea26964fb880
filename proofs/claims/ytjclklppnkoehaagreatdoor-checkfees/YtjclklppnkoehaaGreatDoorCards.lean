/-
  DERIVED. GIVEN WITH THE SEED: THE CARDS: each row of YtjclklppnkoehaaGreatDoorRows.lean that lists a variable, with what it lists TIED to the program's text (the seventh form; the later family's looks); each row that meets fmt, with fmt's text TOLD by the authors' own Lean function (tested against real Go, not proved from fmt's source: count such statements apart). THE CARD IS WHAT COUNTS. Prove the row's statement (the work); the ties are given (YtjclklppnkoehaaGreatDoorTie.lean); close each card by the builder's one call (the guide's Derived/Test/ToyasCard.lean, 'card_holds'). Laid BY PROGRAM, IN A SANDBOX (cutbox-door.mjs). By AI agents, Wed Nov 11 2026. No macro, syntax, notation, axiom, sorry.
-/
import Derived.Test.YtjclklppnkoehaaGreatDoorRows
import GoSem.ClaimSeven
namespace Go.Proofs.YtjclklppnkoehaaGreatDoor
namespace Rows

/-- THE TIED CARD OF 'kedgelaw11.CheckFees'. -/
def checkFeesCard : Claim7 := { stood := { row := checkFeesRow, standIns := [], harness := (true, "6008868317a998d32b54a3844966bb5788cdc2c4d0a3c48ac04284ddee389e25"), looks := true }, kinds := [], alts := [], laidByText := true, laidKinds := [.handle], laidTests := true, laidLooks := .later }
def CheckFeesCardSaid : Prop := Claim7.holds Tryz.pinned (.plain (OpenSpec.ofChange checkFeesSpec)) checkFeesCard

/-- THE SECOND FORM's CARD OF 'kedgelaw11.CheckFees'. -/
def checkFeesUptoCard : Claim7 := { stood := { row := checkFeesUptoRow, standIns := [], harness := (true, "6008868317a998d32b54a3844966bb5788cdc2c4d0a3c48ac04284ddee389e25"), looks := true }, kinds := [], alts := [], laidByText := true, laidKinds := [.handle], laidTests := true, laidLooks := .later }
def CheckFeesUptoCardSaid : Prop := Claim7.holds Tryz.pinned (.plain (OpenSpec.upto checkFeesSpec)) checkFeesUptoCard
end Rows
end Go.Proofs.YtjclklppnkoehaaGreatDoor
