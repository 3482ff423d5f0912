/-
  DERIVED. GIVEN WITH THE SEED: THE CARDS: each row of YthpcbijeahcpmaaDoorRows.lean that lists a variable, with what it lists TIED to the program's text (the seventh form; the later family's looks); each row that meets fmt, with fmt's text TOLD by the authors' own Lean function (tested against real Go, not proved from fmt's source: count such statements apart). THE CARD IS WHAT COUNTS. Prove the row's statement (the work); the ties are given (YthpcbijeahcpmaaDoorTie.lean); close each card by the builder's one call (the guide's Derived/Test/ToyasCard.lean, 'card_holds'). Laid BY PROGRAM, IN A SANDBOX (cutbox-door.mjs). By AI agents, Wed Nov 11 2026. No macro, syntax, notation, axiom, sorry.
-/
import Derived.Test.YthpcbijeahcpmaaDoorRows
import GoSem.ClaimSeven
namespace Go.Proofs.YthpcbijeahcpmaaDoor
namespace Rows

/-- THE TIED CARD OF 'sheavelaw03.ClampTrims'. -/
def clampTrimsCard : Claim7 := { stood := { row := clampTrimsRow, standIns := [], harness := (true, "b7c60a51f5a4d7228306064a624fa0bddd827f0ad80916468d5d260639f1a2a3"), looks := false }, kinds := [], alts := [], laidByText := true, laidKinds := [.data, .data], laidTests := true, laidLooks := .later }
def ClampTrimsCardSaid : Prop := Claim7.holds Tryd.pinned (.plain (OpenSpec.ofChange clampTrimsSpec)) clampTrimsCard

/-- THE TIED CARD OF 'sheavelaw03.ClampCanon'. -/
def clampCanonCard : Claim7 := { stood := { row := clampCanonRow, standIns := [], harness := (true, "b7c60a51f5a4d7228306064a624fa0bddd827f0ad80916468d5d260639f1a2a3"), looks := false }, kinds := [], alts := [], laidByText := true, laidKinds := [.data, .data], laidTests := true, laidLooks := .later }
def ClampCanonCardSaid : Prop := Claim7.holds Tryd.pinned (.plain (OpenSpec.ofChange clampCanonSpec)) clampCanonCard

/-- THE TIED CARD OF 'sheavelaw03.ClampAdds'. -/
def clampAddsCard : Claim7 := { stood := { row := clampAddsRow, standIns := [], harness := (true, "b7c60a51f5a4d7228306064a624fa0bddd827f0ad80916468d5d260639f1a2a3"), looks := false }, kinds := [], alts := [], laidByText := true, laidKinds := [.data, .data], laidTests := true, laidLooks := .later }
def ClampAddsCardSaid : Prop := Claim7.holds Tryd.pinned (.plain (OpenSpec.ofChange clampAddsSpec)) clampAddsCard

/-- THE TIED CARD OF 'sheavelaw03.ClampMuls'. -/
def clampMulsCard : Claim7 := { stood := { row := clampMulsRow, standIns := [], harness := (true, "b7c60a51f5a4d7228306064a624fa0bddd827f0ad80916468d5d260639f1a2a3"), looks := false }, kinds := [], alts := [], laidByText := true, laidKinds := [.data, .data], laidTests := true, laidLooks := .later }
def ClampMulsCardSaid : Prop := Claim7.holds Tryd.pinned (.plain (OpenSpec.ofChange clampMulsSpec)) clampMulsCard

/-- THE TIED CARD OF 'sheavelaw03.ClampLow'. -/
def clampLowCard : Claim7 := { stood := { row := clampLowRow, standIns := [], harness := (true, "b7c60a51f5a4d7228306064a624fa0bddd827f0ad80916468d5d260639f1a2a3"), looks := false }, kinds := [], alts := [], laidByText := true, laidKinds := [.data, .data], laidTests := true, laidLooks := .later }
def ClampLowCardSaid : Prop := Claim7.holds Tryd.pinned (.plain (OpenSpec.ofChange clampLowSpec)) clampLowCard

/-- THE TIED CARD OF 'sheavelaw03.ClampSides'. -/
def clampSidesCard : Claim7 := { stood := { row := clampSidesRow, standIns := [], harness := (true, "b7c60a51f5a4d7228306064a624fa0bddd827f0ad80916468d5d260639f1a2a3"), looks := false }, kinds := [], alts := [], laidByText := true, laidKinds := [.data, .data], laidTests := true, laidLooks := .later }
def ClampSidesCardSaid : Prop := Claim7.holds Tryd.pinned (.plain (OpenSpec.ofChange clampSidesSpec)) clampSidesCard

/-- THE SECOND FORM's CARD OF 'sheavelaw03.ClampTrims'. -/
def clampTrimsUptoCard : Claim7 := { stood := { row := clampTrimsUptoRow, standIns := [], harness := (true, "b7c60a51f5a4d7228306064a624fa0bddd827f0ad80916468d5d260639f1a2a3"), looks := false }, kinds := [], alts := [], laidByText := true, laidKinds := [.data, .data], laidTests := true, laidLooks := .later }
def ClampTrimsUptoCardSaid : Prop := Claim7.holds Tryd.pinned (.plain (OpenSpec.upto clampTrimsSpec)) clampTrimsUptoCard

/-- THE SECOND FORM's CARD OF 'sheavelaw03.ClampCanon'. -/
def clampCanonUptoCard : Claim7 := { stood := { row := clampCanonUptoRow, standIns := [], harness := (true, "b7c60a51f5a4d7228306064a624fa0bddd827f0ad80916468d5d260639f1a2a3"), looks := false }, kinds := [], alts := [], laidByText := true, laidKinds := [.data, .data], laidTests := true, laidLooks := .later }
def ClampCanonUptoCardSaid : Prop := Claim7.holds Tryd.pinned (.plain (OpenSpec.upto clampCanonSpec)) clampCanonUptoCard

/-- THE SECOND FORM's CARD OF 'sheavelaw03.ClampAdds'. -/
def clampAddsUptoCard : Claim7 := { stood := { row := clampAddsUptoRow, standIns := [], harness := (true, "b7c60a51f5a4d7228306064a624fa0bddd827f0ad80916468d5d260639f1a2a3"), looks := false }, kinds := [], alts := [], laidByText := true, laidKinds := [.data, .data], laidTests := true, laidLooks := .later }
def ClampAddsUptoCardSaid : Prop := Claim7.holds Tryd.pinned (.plain (OpenSpec.upto clampAddsSpec)) clampAddsUptoCard

/-- THE SECOND FORM's CARD OF 'sheavelaw03.ClampMuls'. -/
def clampMulsUptoCard : Claim7 := { stood := { row := clampMulsUptoRow, standIns := [], harness := (true, "b7c60a51f5a4d7228306064a624fa0bddd827f0ad80916468d5d260639f1a2a3"), looks := false }, kinds := [], alts := [], laidByText := true, laidKinds := [.data, .data], laidTests := true, laidLooks := .later }
def ClampMulsUptoCardSaid : Prop := Claim7.holds Tryd.pinned (.plain (OpenSpec.upto clampMulsSpec)) clampMulsUptoCard

/-- THE SECOND FORM's CARD OF 'sheavelaw03.ClampLow'. -/
def clampLowUptoCard : Claim7 := { stood := { row := clampLowUptoRow, standIns := [], harness := (true, "b7c60a51f5a4d7228306064a624fa0bddd827f0ad80916468d5d260639f1a2a3"), looks := false }, kinds := [], alts := [], laidByText := true, laidKinds := [.data, .data], laidTests := true, laidLooks := .later }
def ClampLowUptoCardSaid : Prop := Claim7.holds Tryd.pinned (.plain (OpenSpec.upto clampLowSpec)) clampLowUptoCard

/-- THE SECOND FORM's CARD OF 'sheavelaw03.ClampSides'. -/
def clampSidesUptoCard : Claim7 := { stood := { row := clampSidesUptoRow, standIns := [], harness := (true, "b7c60a51f5a4d7228306064a624fa0bddd827f0ad80916468d5d260639f1a2a3"), looks := false }, kinds := [], alts := [], laidByText := true, laidKinds := [.data, .data], laidTests := true, laidLooks := .later }
def ClampSidesUptoCardSaid : Prop := Claim7.holds Tryd.pinned (.plain (OpenSpec.upto clampSidesSpec)) clampSidesUptoCard
end Rows
end Go.Proofs.YthpcbijeahcpmaaDoor
