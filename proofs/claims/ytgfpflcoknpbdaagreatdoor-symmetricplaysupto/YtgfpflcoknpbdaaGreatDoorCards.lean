/-
  DERIVED. GIVEN WITH THE SEED: THE CARDS: each row of YtgfpflcoknpbdaaGreatDoorRows.lean that lists a variable, with what it lists TIED to the program's text (the seventh form; the later family's looks); each row that meets fmt, with fmt's text TOLD by the authors' own Lean function (tested against real Go, not proved from fmt's source: count such statements apart). THE CARD IS WHAT COUNTS. Prove the row's statement (the work); the ties are given (YtgfpflcoknpbdaaGreatDoorTie.lean); close each card by the builder's one call (the guide's Derived/Test/ToyasCard.lean, 'card_holds'). Laid BY PROGRAM, IN A SANDBOX (cutbox-door.mjs). By AI agents, Wed Nov 11 2026. No macro, syntax, notation, axiom, sorry.
-/
import Derived.Test.YtgfpflcoknpbdaaGreatDoorRows
import GoSem.ClaimSeven
namespace Go.Proofs.YtgfpflcoknpbdaaGreatDoor
namespace Rows

/-- THE TIED CARD OF 'sheavelaw12.SymmetricPlays'. -/
def symmetricPlaysCard : Claim7 := { stood := { row := symmetricPlaysRow, standIns := [], harness := (true, "3c8b9bc066be4a10e34d7767fc080df97b64e0cb054124663984cffe39706c72"), looks := false }, kinds := [], alts := [], laidByText := true, laidKinds := [.data, .data, .data, .data, .data, .data, .data], laidTests := true, laidLooks := .later }
def SymmetricPlaysCardSaid : Prop := Claim7.holds Tryz.pinned (.plain (OpenSpec.ofChange symmetricPlaysSpec)) symmetricPlaysCard

/-- THE SECOND FORM's CARD OF 'sheavelaw12.SymmetricPlays'. -/
def symmetricPlaysUptoCard : Claim7 := { stood := { row := symmetricPlaysUptoRow, standIns := [], harness := (true, "3c8b9bc066be4a10e34d7767fc080df97b64e0cb054124663984cffe39706c72"), looks := false }, kinds := [], alts := [], laidByText := true, laidKinds := [.data, .data, .data, .data, .data, .data, .data], laidTests := true, laidLooks := .later }
def SymmetricPlaysUptoCardSaid : Prop := Claim7.holds Tryz.pinned (.plain (OpenSpec.upto symmetricPlaysSpec)) symmetricPlaysUptoCard
end Rows
end Go.Proofs.YtgfpflcoknpbdaaGreatDoor
