/-
  DERIVED. GIVEN WITH THE SEED: THE CARDS: each row of YtjddngedifgneacDoorRows.lean that lists a variable, with what it lists TIED to the program's text (the seventh form; the later family's looks); each row that meets fmt, with fmt's text TOLD by the authors' own Lean function (tested against real Go, not proved from fmt's source: count such statements apart). THE CARD IS WHAT COUNTS. Prove the row's statement (the work); the ties are given (YtjddngedifgneacDoorTie.lean); close each card by the builder's one call (the guide's Derived/Test/ToyasCard.lean, 'card_holds'). Laid BY PROGRAM, IN A SANDBOX (cutbox-door.mjs). By AI agents, Wed Nov 11 2026. No macro, syntax, notation, axiom, sorry.
-/
import Derived.Test.YtjddngedifgneacDoorRows
import GoSem.ClaimSeven
namespace Go.Proofs.YtjddngedifgneacDoor
namespace Rows

/-- THE TIED CARD OF 'sheavelaw01.CurvePicks'. -/
def curvePicksCard : Claim7 := { stood := { row := curvePicksRow, standIns := [], harness := (true, "edcf24029fc45e440e66bb91a57cf8e0354a2594cc455da93239480edc992376"), looks := false }, kinds := [], alts := [], laidByText := true, laidKinds := [.data, .data], laidTests := true, laidLooks := .later }
def CurvePicksCardSaid : Prop := Claim7.holds Tryd.pinned (.plain (OpenSpec.ofChange curvePicksSpec)) curvePicksCard

/-- THE TIED CARD OF 'sheavelaw01.CurveOnes'. -/
def curveOnesCard : Claim7 := { stood := { row := curveOnesRow, standIns := [], harness := (true, "edcf24029fc45e440e66bb91a57cf8e0354a2594cc455da93239480edc992376"), looks := false }, kinds := [], alts := [], laidByText := true, laidKinds := [.data, .data], laidTests := true, laidLooks := .later }
def CurveOnesCardSaid : Prop := Claim7.holds Tryd.pinned (.plain (OpenSpec.ofChange curveOnesSpec)) curveOnesCard

/-- THE TIED CARD OF 'sheavelaw01.CurveBinomial'. -/
def curveBinomialCard : Claim7 := { stood := { row := curveBinomialRow, standIns := [], harness := (true, "edcf24029fc45e440e66bb91a57cf8e0354a2594cc455da93239480edc992376"), looks := false }, kinds := [], alts := [], laidByText := true, laidKinds := [.data, .data], laidTests := true, laidLooks := .later }
def CurveBinomialCardSaid : Prop := Claim7.holds Tryd.pinned (.plain (OpenSpec.ofChange curveBinomialSpec)) curveBinomialCard

/-- THE TIED CARD OF 'sheavelaw01.CurveTwice'. -/
def curveTwiceCard : Claim7 := { stood := { row := curveTwiceRow, standIns := [], harness := (true, "edcf24029fc45e440e66bb91a57cf8e0354a2594cc455da93239480edc992376"), looks := false }, kinds := [], alts := [], laidByText := true, laidKinds := [.data, .data], laidTests := true, laidLooks := .later }
def CurveTwiceCardSaid : Prop := Claim7.holds Tryd.pinned (.plain (OpenSpec.ofChange curveTwiceSpec)) curveTwiceCard

/-- THE TIED CARD OF 'sheavelaw01.CurveStands'. -/
def curveStandsCard : Claim7 := { stood := { row := curveStandsRow, standIns := [], harness := (true, "edcf24029fc45e440e66bb91a57cf8e0354a2594cc455da93239480edc992376"), looks := false }, kinds := [], alts := [], laidByText := true, laidKinds := [.data, .data], laidTests := true, laidLooks := .later }
def CurveStandsCardSaid : Prop := Claim7.holds Tryd.pinned (.plain (OpenSpec.ofChange curveStandsSpec)) curveStandsCard

/-- THE SECOND FORM's CARD OF 'sheavelaw01.CurvePicks'. -/
def curvePicksUptoCard : Claim7 := { stood := { row := curvePicksUptoRow, standIns := [], harness := (true, "edcf24029fc45e440e66bb91a57cf8e0354a2594cc455da93239480edc992376"), looks := false }, kinds := [], alts := [], laidByText := true, laidKinds := [.data, .data], laidTests := true, laidLooks := .later }
def CurvePicksUptoCardSaid : Prop := Claim7.holds Tryd.pinned (.plain (OpenSpec.upto curvePicksSpec)) curvePicksUptoCard

/-- THE SECOND FORM's CARD OF 'sheavelaw01.CurveOnes'. -/
def curveOnesUptoCard : Claim7 := { stood := { row := curveOnesUptoRow, standIns := [], harness := (true, "edcf24029fc45e440e66bb91a57cf8e0354a2594cc455da93239480edc992376"), looks := false }, kinds := [], alts := [], laidByText := true, laidKinds := [.data, .data], laidTests := true, laidLooks := .later }
def CurveOnesUptoCardSaid : Prop := Claim7.holds Tryd.pinned (.plain (OpenSpec.upto curveOnesSpec)) curveOnesUptoCard

/-- THE SECOND FORM's CARD OF 'sheavelaw01.CurveBinomial'. -/
def curveBinomialUptoCard : Claim7 := { stood := { row := curveBinomialUptoRow, standIns := [], harness := (true, "edcf24029fc45e440e66bb91a57cf8e0354a2594cc455da93239480edc992376"), looks := false }, kinds := [], alts := [], laidByText := true, laidKinds := [.data, .data], laidTests := true, laidLooks := .later }
def CurveBinomialUptoCardSaid : Prop := Claim7.holds Tryd.pinned (.plain (OpenSpec.upto curveBinomialSpec)) curveBinomialUptoCard

/-- THE SECOND FORM's CARD OF 'sheavelaw01.CurveTwice'. -/
def curveTwiceUptoCard : Claim7 := { stood := { row := curveTwiceUptoRow, standIns := [], harness := (true, "edcf24029fc45e440e66bb91a57cf8e0354a2594cc455da93239480edc992376"), looks := false }, kinds := [], alts := [], laidByText := true, laidKinds := [.data, .data], laidTests := true, laidLooks := .later }
def CurveTwiceUptoCardSaid : Prop := Claim7.holds Tryd.pinned (.plain (OpenSpec.upto curveTwiceSpec)) curveTwiceUptoCard

/-- THE SECOND FORM's CARD OF 'sheavelaw01.CurveStands'. -/
def curveStandsUptoCard : Claim7 := { stood := { row := curveStandsUptoRow, standIns := [], harness := (true, "edcf24029fc45e440e66bb91a57cf8e0354a2594cc455da93239480edc992376"), looks := false }, kinds := [], alts := [], laidByText := true, laidKinds := [.data, .data], laidTests := true, laidLooks := .later }
def CurveStandsUptoCardSaid : Prop := Claim7.holds Tryd.pinned (.plain (OpenSpec.upto curveStandsSpec)) curveStandsUptoCard
end Rows
end Go.Proofs.YtjddngedifgneacDoor
