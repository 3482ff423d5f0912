/-
  DERIVED. GIVEN WITH THE SEED: THE CARDS: each row of YtjddngedifgneaaDoorRows.lean that lists a variable, with what it lists TIED to the program's text (the seventh form; the later family's looks); each row that meets fmt, with fmt's text TOLD by the authors' own Lean function (tested against real Go, not proved from fmt's source: count such statements apart). THE CARD IS WHAT COUNTS. Prove the row's statement (the work); the ties are given (YtjddngedifgneaaDoorTie.lean); close each card by the builder's one call (the guide's Derived/Test/ToyasCard.lean, 'card_holds'). Laid BY PROGRAM, IN A SANDBOX (cutbox-door.mjs). By AI agents, Wed Nov 11 2026. No macro, syntax, notation, axiom, sorry.
-/
import Derived.Test.YtjddngedifgneaaDoorRows
import GoSem.ClaimSeven
namespace Go.Proofs.YtjddngedifgneaaDoor
namespace Rows

/-- THE TIED CARD OF 'sheavelaw01.CurveCanon'. -/
def curveCanonCard : Claim7 := { stood := { row := curveCanonRow, standIns := [], harness := (true, "d0611769b8344b455383212b692ba8671fc421b1a4ee85f2dcc46487145d2214"), looks := false }, kinds := [], alts := [], laidByText := true, laidKinds := [.data, .data], laidTests := true, laidLooks := .later }
def CurveCanonCardSaid : Prop := Claim7.holds Tryd.pinned (.plain (OpenSpec.ofChange curveCanonSpec)) curveCanonCard

/-- THE TIED CARD OF 'sheavelaw01.CurveAdds'. -/
def curveAddsCard : Claim7 := { stood := { row := curveAddsRow, standIns := [], harness := (true, "d0611769b8344b455383212b692ba8671fc421b1a4ee85f2dcc46487145d2214"), looks := false }, kinds := [], alts := [], laidByText := true, laidKinds := [.data, .data], laidTests := true, laidLooks := .later }
def CurveAddsCardSaid : Prop := Claim7.holds Tryd.pinned (.plain (OpenSpec.ofChange curveAddsSpec)) curveAddsCard

/-- THE TIED CARD OF 'sheavelaw01.CurveSubs'. -/
def curveSubsCard : Claim7 := { stood := { row := curveSubsRow, standIns := [], harness := (true, "d0611769b8344b455383212b692ba8671fc421b1a4ee85f2dcc46487145d2214"), looks := false }, kinds := [], alts := [], laidByText := true, laidKinds := [.data, .data], laidTests := true, laidLooks := .later }
def CurveSubsCardSaid : Prop := Claim7.holds Tryd.pinned (.plain (OpenSpec.ofChange curveSubsSpec)) curveSubsCard

/-- THE TIED CARD OF 'sheavelaw01.CurveMuls'. -/
def curveMulsCard : Claim7 := { stood := { row := curveMulsRow, standIns := [], harness := (true, "d0611769b8344b455383212b692ba8671fc421b1a4ee85f2dcc46487145d2214"), looks := false }, kinds := [], alts := [], laidByText := true, laidKinds := [.data, .data], laidTests := true, laidLooks := .later }
def CurveMulsCardSaid : Prop := Claim7.holds Tryd.pinned (.plain (OpenSpec.ofChange curveMulsSpec)) curveMulsCard

/-- THE TIED CARD OF 'sheavelaw01.CurveSquares'. -/
def curveSquaresCard : Claim7 := { stood := { row := curveSquaresRow, standIns := [], harness := (true, "d0611769b8344b455383212b692ba8671fc421b1a4ee85f2dcc46487145d2214"), looks := false }, kinds := [], alts := [], laidByText := true, laidKinds := [.data, .data], laidTests := true, laidLooks := .later }
def CurveSquaresCardSaid : Prop := Claim7.holds Tryd.pinned (.plain (OpenSpec.ofChange curveSquaresSpec)) curveSquaresCard

/-- THE TIED CARD OF 'sheavelaw01.CurveInverts'. -/
def curveInvertsCard : Claim7 := { stood := { row := curveInvertsRow, standIns := [], harness := (true, "d0611769b8344b455383212b692ba8671fc421b1a4ee85f2dcc46487145d2214"), looks := false }, kinds := [], alts := [], laidByText := true, laidKinds := [.data, .data], laidTests := true, laidLooks := .later }
def CurveInvertsCardSaid : Prop := Claim7.holds Tryd.pinned (.plain (OpenSpec.ofChange curveInvertsSpec)) curveInvertsCard

/-- THE SECOND FORM's CARD OF 'sheavelaw01.CurveCanon'. -/
def curveCanonUptoCard : Claim7 := { stood := { row := curveCanonUptoRow, standIns := [], harness := (true, "d0611769b8344b455383212b692ba8671fc421b1a4ee85f2dcc46487145d2214"), looks := false }, kinds := [], alts := [], laidByText := true, laidKinds := [.data, .data], laidTests := true, laidLooks := .later }
def CurveCanonUptoCardSaid : Prop := Claim7.holds Tryd.pinned (.plain (OpenSpec.upto curveCanonSpec)) curveCanonUptoCard

/-- THE SECOND FORM's CARD OF 'sheavelaw01.CurveAdds'. -/
def curveAddsUptoCard : Claim7 := { stood := { row := curveAddsUptoRow, standIns := [], harness := (true, "d0611769b8344b455383212b692ba8671fc421b1a4ee85f2dcc46487145d2214"), looks := false }, kinds := [], alts := [], laidByText := true, laidKinds := [.data, .data], laidTests := true, laidLooks := .later }
def CurveAddsUptoCardSaid : Prop := Claim7.holds Tryd.pinned (.plain (OpenSpec.upto curveAddsSpec)) curveAddsUptoCard

/-- THE SECOND FORM's CARD OF 'sheavelaw01.CurveSubs'. -/
def curveSubsUptoCard : Claim7 := { stood := { row := curveSubsUptoRow, standIns := [], harness := (true, "d0611769b8344b455383212b692ba8671fc421b1a4ee85f2dcc46487145d2214"), looks := false }, kinds := [], alts := [], laidByText := true, laidKinds := [.data, .data], laidTests := true, laidLooks := .later }
def CurveSubsUptoCardSaid : Prop := Claim7.holds Tryd.pinned (.plain (OpenSpec.upto curveSubsSpec)) curveSubsUptoCard

/-- THE SECOND FORM's CARD OF 'sheavelaw01.CurveMuls'. -/
def curveMulsUptoCard : Claim7 := { stood := { row := curveMulsUptoRow, standIns := [], harness := (true, "d0611769b8344b455383212b692ba8671fc421b1a4ee85f2dcc46487145d2214"), looks := false }, kinds := [], alts := [], laidByText := true, laidKinds := [.data, .data], laidTests := true, laidLooks := .later }
def CurveMulsUptoCardSaid : Prop := Claim7.holds Tryd.pinned (.plain (OpenSpec.upto curveMulsSpec)) curveMulsUptoCard

/-- THE SECOND FORM's CARD OF 'sheavelaw01.CurveSquares'. -/
def curveSquaresUptoCard : Claim7 := { stood := { row := curveSquaresUptoRow, standIns := [], harness := (true, "d0611769b8344b455383212b692ba8671fc421b1a4ee85f2dcc46487145d2214"), looks := false }, kinds := [], alts := [], laidByText := true, laidKinds := [.data, .data], laidTests := true, laidLooks := .later }
def CurveSquaresUptoCardSaid : Prop := Claim7.holds Tryd.pinned (.plain (OpenSpec.upto curveSquaresSpec)) curveSquaresUptoCard

/-- THE SECOND FORM's CARD OF 'sheavelaw01.CurveInverts'. -/
def curveInvertsUptoCard : Claim7 := { stood := { row := curveInvertsUptoRow, standIns := [], harness := (true, "d0611769b8344b455383212b692ba8671fc421b1a4ee85f2dcc46487145d2214"), looks := false }, kinds := [], alts := [], laidByText := true, laidKinds := [.data, .data], laidTests := true, laidLooks := .later }
def CurveInvertsUptoCardSaid : Prop := Claim7.holds Tryd.pinned (.plain (OpenSpec.upto curveInvertsSpec)) curveInvertsUptoCard
end Rows
end Go.Proofs.YtjddngedifgneaaDoor
