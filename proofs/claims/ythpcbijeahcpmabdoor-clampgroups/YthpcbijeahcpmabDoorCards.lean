/-
  DERIVED. GIVEN WITH THE SEED: THE CARDS: each row of YthpcbijeahcpmabDoorRows.lean that lists a variable, with what it lists TIED to the program's text (the seventh form; the later family's looks); each row that meets fmt, with fmt's text TOLD by the authors' own Lean function (tested against real Go, not proved from fmt's source: count such statements apart). THE CARD IS WHAT COUNTS. Prove the row's statement (the work); the ties are given (YthpcbijeahcpmabDoorTie.lean); close each card by the builder's one call (the guide's Derived/Test/ToyasCard.lean, 'card_holds'). Laid BY PROGRAM, IN A SANDBOX (cutbox-door.mjs). By AI agents, Wed Nov 11 2026. No macro, syntax, notation, axiom, sorry.
-/
import Derived.Test.YthpcbijeahcpmabDoorRows
import GoSem.ClaimSeven
namespace Go.Proofs.YthpcbijeahcpmabDoor
namespace Rows

/-- THE TIED CARD OF 'sheavelaw03.ClampGroups'. -/
def clampGroupsCard : Claim7 := { stood := { row := clampGroupsRow, standIns := [], harness := (true, "0aca8c7a768de8b141aaf789110ce4c4a90973a4d23912e1ca9bd309d2c8b1ae"), looks := false }, kinds := [], alts := [], laidByText := true, laidKinds := [.data, .data], laidTests := true, laidLooks := .later }
def ClampGroupsCardSaid : Prop := Claim7.holds Tryd.pinned (.plain (OpenSpec.ofChange clampGroupsSpec)) clampGroupsCard

/-- THE TIED CARD OF 'sheavelaw03.ClampSpreads'. -/
def clampSpreadsCard : Claim7 := { stood := { row := clampSpreadsRow, standIns := [], harness := (true, "0aca8c7a768de8b141aaf789110ce4c4a90973a4d23912e1ca9bd309d2c8b1ae"), looks := false }, kinds := [], alts := [], laidByText := true, laidKinds := [.data, .data], laidTests := true, laidLooks := .later }
def ClampSpreadsCardSaid : Prop := Claim7.holds Tryd.pinned (.plain (OpenSpec.ofChange clampSpreadsSpec)) clampSpreadsCard

/-- THE TIED CARD OF 'sheavelaw03.ClampOnes'. -/
def clampOnesCard : Claim7 := { stood := { row := clampOnesRow, standIns := [], harness := (true, "0aca8c7a768de8b141aaf789110ce4c4a90973a4d23912e1ca9bd309d2c8b1ae"), looks := false }, kinds := [], alts := [], laidByText := true, laidKinds := [.data, .data], laidTests := true, laidLooks := .later }
def ClampOnesCardSaid : Prop := Claim7.holds Tryd.pinned (.plain (OpenSpec.ofChange clampOnesSpec)) clampOnesCard

/-- THE TIED CARD OF 'sheavelaw03.ClampWhole'. -/
def clampWholeCard : Claim7 := { stood := { row := clampWholeRow, standIns := [], harness := (true, "0aca8c7a768de8b141aaf789110ce4c4a90973a4d23912e1ca9bd309d2c8b1ae"), looks := false }, kinds := [], alts := [], laidByText := true, laidKinds := [.data, .data], laidTests := true, laidLooks := .later }
def ClampWholeCardSaid : Prop := Claim7.holds Tryd.pinned (.plain (OpenSpec.ofChange clampWholeSpec)) clampWholeCard

/-- THE TIED CARD OF 'sheavelaw03.ClampStands'. -/
def clampStandsCard : Claim7 := { stood := { row := clampStandsRow, standIns := [], harness := (true, "0aca8c7a768de8b141aaf789110ce4c4a90973a4d23912e1ca9bd309d2c8b1ae"), looks := false }, kinds := [], alts := [], laidByText := true, laidKinds := [.data, .data], laidTests := true, laidLooks := .later }
def ClampStandsCardSaid : Prop := Claim7.holds Tryd.pinned (.plain (OpenSpec.ofChange clampStandsSpec)) clampStandsCard

/-- THE SECOND FORM's CARD OF 'sheavelaw03.ClampGroups'. -/
def clampGroupsUptoCard : Claim7 := { stood := { row := clampGroupsUptoRow, standIns := [], harness := (true, "0aca8c7a768de8b141aaf789110ce4c4a90973a4d23912e1ca9bd309d2c8b1ae"), looks := false }, kinds := [], alts := [], laidByText := true, laidKinds := [.data, .data], laidTests := true, laidLooks := .later }
def ClampGroupsUptoCardSaid : Prop := Claim7.holds Tryd.pinned (.plain (OpenSpec.upto clampGroupsSpec)) clampGroupsUptoCard

/-- THE SECOND FORM's CARD OF 'sheavelaw03.ClampSpreads'. -/
def clampSpreadsUptoCard : Claim7 := { stood := { row := clampSpreadsUptoRow, standIns := [], harness := (true, "0aca8c7a768de8b141aaf789110ce4c4a90973a4d23912e1ca9bd309d2c8b1ae"), looks := false }, kinds := [], alts := [], laidByText := true, laidKinds := [.data, .data], laidTests := true, laidLooks := .later }
def ClampSpreadsUptoCardSaid : Prop := Claim7.holds Tryd.pinned (.plain (OpenSpec.upto clampSpreadsSpec)) clampSpreadsUptoCard

/-- THE SECOND FORM's CARD OF 'sheavelaw03.ClampOnes'. -/
def clampOnesUptoCard : Claim7 := { stood := { row := clampOnesUptoRow, standIns := [], harness := (true, "0aca8c7a768de8b141aaf789110ce4c4a90973a4d23912e1ca9bd309d2c8b1ae"), looks := false }, kinds := [], alts := [], laidByText := true, laidKinds := [.data, .data], laidTests := true, laidLooks := .later }
def ClampOnesUptoCardSaid : Prop := Claim7.holds Tryd.pinned (.plain (OpenSpec.upto clampOnesSpec)) clampOnesUptoCard

/-- THE SECOND FORM's CARD OF 'sheavelaw03.ClampWhole'. -/
def clampWholeUptoCard : Claim7 := { stood := { row := clampWholeUptoRow, standIns := [], harness := (true, "0aca8c7a768de8b141aaf789110ce4c4a90973a4d23912e1ca9bd309d2c8b1ae"), looks := false }, kinds := [], alts := [], laidByText := true, laidKinds := [.data, .data], laidTests := true, laidLooks := .later }
def ClampWholeUptoCardSaid : Prop := Claim7.holds Tryd.pinned (.plain (OpenSpec.upto clampWholeSpec)) clampWholeUptoCard

/-- THE SECOND FORM's CARD OF 'sheavelaw03.ClampStands'. -/
def clampStandsUptoCard : Claim7 := { stood := { row := clampStandsUptoRow, standIns := [], harness := (true, "0aca8c7a768de8b141aaf789110ce4c4a90973a4d23912e1ca9bd309d2c8b1ae"), looks := false }, kinds := [], alts := [], laidByText := true, laidKinds := [.data, .data], laidTests := true, laidLooks := .later }
def ClampStandsUptoCardSaid : Prop := Claim7.holds Tryd.pinned (.plain (OpenSpec.upto clampStandsSpec)) clampStandsUptoCard
end Rows
end Go.Proofs.YthpcbijeahcpmabDoor
