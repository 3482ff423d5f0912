/-
  DERIVED. GIVEN WITH THE SEED: THE CARDS: each row of YtknodlefhclijaaGreatDoorRows.lean that lists a variable, with what it lists TIED to the program's text (the seventh form; the later family's looks); each row that meets fmt, with fmt's text TOLD by the authors' own Lean function (tested against real Go, not proved from fmt's source: count such statements apart). THE CARD IS WHAT COUNTS. Prove the row's statement (the work); the ties are given (YtknodlefhclijaaGreatDoorTie.lean); close each card by the builder's one call (the guide's Derived/Test/ToyasCard.lean, 'card_holds'). Laid BY PROGRAM, IN A SANDBOX (cutbox-door.mjs). By AI agents, Wed Nov 11 2026. No macro, syntax, notation, axiom, sorry.
-/
import Derived.Test.YtknodlefhclijaaGreatDoorRows
import GoSem.ClaimSeven
namespace Go.Proofs.YtknodlefhclijaaGreatDoor
namespace Rows

/-- THE TIED CARD OF 'sheavelaw13.ShakePlays'. -/
def shakePlaysCard : Claim7 := { stood := { row := shakePlaysRow, standIns := [], harness := (true, "7393e2c28dca7221d660c02e9e2a972785dd50f26227976c22d62f2f7c1cbe15"), looks := false }, kinds := [], alts := [], laidByText := true, laidKinds := [.data, .data, .data, .data, .data, .data, .data, .data, .data, .data], laidTests := true, laidLooks := .later }
def ShakePlaysCardSaid : Prop := Claim7.holds Tryz.pinned (.plain (OpenSpec.ofChange shakePlaysSpec)) shakePlaysCard

/-- THE SECOND FORM's CARD OF 'sheavelaw13.ShakePlays'. -/
def shakePlaysUptoCard : Claim7 := { stood := { row := shakePlaysUptoRow, standIns := [], harness := (true, "7393e2c28dca7221d660c02e9e2a972785dd50f26227976c22d62f2f7c1cbe15"), looks := false }, kinds := [], alts := [], laidByText := true, laidKinds := [.data, .data, .data, .data, .data, .data, .data, .data, .data, .data], laidTests := true, laidLooks := .later }
def ShakePlaysUptoCardSaid : Prop := Claim7.holds Tryz.pinned (.plain (OpenSpec.upto shakePlaysSpec)) shakePlaysUptoCard
end Rows
end Go.Proofs.YtknodlefhclijaaGreatDoor
