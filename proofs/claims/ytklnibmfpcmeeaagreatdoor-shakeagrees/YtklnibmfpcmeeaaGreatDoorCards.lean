/-
  DERIVED. GIVEN WITH THE SEED: THE CARDS: each row of YtklnibmfpcmeeaaGreatDoorRows.lean that lists a variable, with what it lists TIED to the program's text (the seventh form; the later family's looks); each row that meets fmt, with fmt's text TOLD by the authors' own Lean function (tested against real Go, not proved from fmt's source: count such statements apart). THE CARD IS WHAT COUNTS. Prove the row's statement (the work); the ties are given (YtklnibmfpcmeeaaGreatDoorTie.lean); close each card by the builder's one call (the guide's Derived/Test/ToyasCard.lean, 'card_holds'). Laid BY PROGRAM, IN A SANDBOX (cutbox-door.mjs). By AI agents, Wed Nov 11 2026. No macro, syntax, notation, axiom, sorry.
-/
import Derived.Test.YtklnibmfpcmeeaaGreatDoorRows
import GoSem.ClaimSeven
namespace Go.Proofs.YtklnibmfpcmeeaaGreatDoor
namespace Rows

/-- THE TIED CARD OF 'sheavelaw13.ShakePlays'. -/
def shakePlaysCard : Claim7 := { stood := { row := shakePlaysRow, standIns := [], harness := (true, "ad984624982a205f95c504b6178f2cb990fd868eeb77bec1bf452fbff4f4134f"), looks := false }, kinds := [], alts := [], laidByText := true, laidKinds := [.data, .data, .data, .data, .data, .data, .data, .data, .data, .data], laidTests := true, laidLooks := .later }
def ShakePlaysCardSaid : Prop := Claim7.holds Tryz.pinned (.plain (OpenSpec.ofChange shakePlaysSpec)) shakePlaysCard

/-- THE TIED CARD OF 'sheavelaw13.ShakeAgrees'. -/
def shakeAgreesCard : Claim7 := { stood := { row := shakeAgreesRow, standIns := [], harness := (true, "ad984624982a205f95c504b6178f2cb990fd868eeb77bec1bf452fbff4f4134f"), looks := false }, kinds := [], alts := [], laidByText := true, laidKinds := [.data, .data, .data, .data, .data, .data, .data, .data, .data, .data], laidTests := true, laidLooks := .later }
def ShakeAgreesCardSaid : Prop := Claim7.holds Tryz.pinned (.plain (OpenSpec.ofChange shakeAgreesSpec)) shakeAgreesCard

/-- THE TIED CARD OF 'sheavelaw13.ShakeTries'. -/
def shakeTriesCard : Claim7 := { stood := { row := shakeTriesRow, standIns := [], harness := (true, "ad984624982a205f95c504b6178f2cb990fd868eeb77bec1bf452fbff4f4134f"), looks := false }, kinds := [], alts := [], laidByText := true, laidKinds := [.data, .data, .data, .data, .data, .data, .data, .data, .data, .data], laidTests := true, laidLooks := .later }
def ShakeTriesCardSaid : Prop := Claim7.holds Tryz.pinned (.plain (OpenSpec.ofChange shakeTriesSpec)) shakeTriesCard

/-- THE SECOND FORM's CARD OF 'sheavelaw13.ShakePlays'. -/
def shakePlaysUptoCard : Claim7 := { stood := { row := shakePlaysUptoRow, standIns := [], harness := (true, "ad984624982a205f95c504b6178f2cb990fd868eeb77bec1bf452fbff4f4134f"), looks := false }, kinds := [], alts := [], laidByText := true, laidKinds := [.data, .data, .data, .data, .data, .data, .data, .data, .data, .data], laidTests := true, laidLooks := .later }
def ShakePlaysUptoCardSaid : Prop := Claim7.holds Tryz.pinned (.plain (OpenSpec.upto shakePlaysSpec)) shakePlaysUptoCard

/-- THE SECOND FORM's CARD OF 'sheavelaw13.ShakeAgrees'. -/
def shakeAgreesUptoCard : Claim7 := { stood := { row := shakeAgreesUptoRow, standIns := [], harness := (true, "ad984624982a205f95c504b6178f2cb990fd868eeb77bec1bf452fbff4f4134f"), looks := false }, kinds := [], alts := [], laidByText := true, laidKinds := [.data, .data, .data, .data, .data, .data, .data, .data, .data, .data], laidTests := true, laidLooks := .later }
def ShakeAgreesUptoCardSaid : Prop := Claim7.holds Tryz.pinned (.plain (OpenSpec.upto shakeAgreesSpec)) shakeAgreesUptoCard

/-- THE SECOND FORM's CARD OF 'sheavelaw13.ShakeTries'. -/
def shakeTriesUptoCard : Claim7 := { stood := { row := shakeTriesUptoRow, standIns := [], harness := (true, "ad984624982a205f95c504b6178f2cb990fd868eeb77bec1bf452fbff4f4134f"), looks := false }, kinds := [], alts := [], laidByText := true, laidKinds := [.data, .data, .data, .data, .data, .data, .data, .data, .data, .data], laidTests := true, laidLooks := .later }
def ShakeTriesUptoCardSaid : Prop := Claim7.holds Tryz.pinned (.plain (OpenSpec.upto shakeTriesSpec)) shakeTriesUptoCard
end Rows
end Go.Proofs.YtklnibmfpcmeeaaGreatDoor
