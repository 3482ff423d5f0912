/-
  DERIVED. GIVEN WITH THE SEED: THE CARDS: each row of YtgfpflcoknpbdaaDoorRows.lean that lists a variable, with what it lists TIED to the program's text (the seventh form; the later family's looks); each row that meets fmt, with fmt's text TOLD by the authors' own Lean function (tested against real Go, not proved from fmt's source: count such statements apart). THE CARD IS WHAT COUNTS. Prove the row's statement (the work); the ties are given (YtgfpflcoknpbdaaDoorTie.lean); close each card by the builder's one call (the guide's Derived/Test/ToyasCard.lean, 'card_holds'). Laid BY PROGRAM, IN A SANDBOX (cutbox-door.mjs). By AI agents, Wed Nov 11 2026. No macro, syntax, notation, axiom, sorry.
-/
import Derived.Test.YtgfpflcoknpbdaaDoorRows
import GoSem.ClaimSeven
namespace Go.Proofs.YtgfpflcoknpbdaaDoor
namespace Rows

/-- THE TIED CARD OF 'sheavelaw12.SymmetricAgrees'. -/
def symmetricAgreesCard : Claim7 := { stood := { row := symmetricAgreesRow, standIns := [], harness := (true, "9d66ed4058dfefb5fe296441cfd926b4e89cead356cb58d3747d6dd8387a53ee"), looks := false }, kinds := [], alts := [], laidByText := true, laidKinds := [.data, .data, .data, .data, .data, .data, .data], laidTests := true, laidLooks := .later }
def SymmetricAgreesCardSaid : Prop := Claim7.holds Tryd.pinned (.plain (OpenSpec.ofChange symmetricAgreesSpec)) symmetricAgreesCard

/-- THE TIED CARD OF 'sheavelaw12.SymmetricForged'. -/
def symmetricForgedCard : Claim7 := { stood := { row := symmetricForgedRow, standIns := [], harness := (true, "9d66ed4058dfefb5fe296441cfd926b4e89cead356cb58d3747d6dd8387a53ee"), looks := false }, kinds := [], alts := [], laidByText := true, laidKinds := [.data, .data, .data, .data, .data, .data, .data], laidTests := true, laidLooks := .later }
def SymmetricForgedCardSaid : Prop := Claim7.holds Tryd.pinned (.plain (OpenSpec.ofChange symmetricForgedSpec)) symmetricForgedCard

/-- THE SECOND FORM's CARD OF 'sheavelaw12.SymmetricAgrees'. -/
def symmetricAgreesUptoCard : Claim7 := { stood := { row := symmetricAgreesUptoRow, standIns := [], harness := (true, "9d66ed4058dfefb5fe296441cfd926b4e89cead356cb58d3747d6dd8387a53ee"), looks := false }, kinds := [], alts := [], laidByText := true, laidKinds := [.data, .data, .data, .data, .data, .data, .data], laidTests := true, laidLooks := .later }
def SymmetricAgreesUptoCardSaid : Prop := Claim7.holds Tryd.pinned (.plain (OpenSpec.upto symmetricAgreesSpec)) symmetricAgreesUptoCard

/-- THE SECOND FORM's CARD OF 'sheavelaw12.SymmetricForged'. -/
def symmetricForgedUptoCard : Claim7 := { stood := { row := symmetricForgedUptoRow, standIns := [], harness := (true, "9d66ed4058dfefb5fe296441cfd926b4e89cead356cb58d3747d6dd8387a53ee"), looks := false }, kinds := [], alts := [], laidByText := true, laidKinds := [.data, .data, .data, .data, .data, .data, .data], laidTests := true, laidLooks := .later }
def SymmetricForgedUptoCardSaid : Prop := Claim7.holds Tryd.pinned (.plain (OpenSpec.upto symmetricForgedSpec)) symmetricForgedUptoCard
end Rows
end Go.Proofs.YtgfpflcoknpbdaaDoor
