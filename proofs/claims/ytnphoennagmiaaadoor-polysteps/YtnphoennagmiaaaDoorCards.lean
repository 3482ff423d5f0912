/-
  DERIVED. GIVEN WITH THE SEED: THE CARDS: each row of YtnphoennagmiaaaDoorRows.lean that lists a variable, with what it lists TIED to the program's text (the seventh form; the later family's looks); each row that meets fmt, with fmt's text TOLD by the authors' own Lean function (tested against real Go, not proved from fmt's source: count such statements apart). THE CARD IS WHAT COUNTS. Prove the row's statement (the work); the ties are given (YtnphoennagmiaaaDoorTie.lean); close each card by the builder's one call (the guide's Derived/Test/ToyasCard.lean, 'card_holds'). Laid BY PROGRAM, IN A SANDBOX (cutbox-door.mjs). By AI agents, Wed Nov 11 2026. No macro, syntax, notation, axiom, sorry.
-/
import Derived.Test.YtnphoennagmiaaaDoorRows
import GoSem.ClaimSeven
namespace Go.Proofs.YtnphoennagmiaaaDoor
namespace Rows

/-- THE TIED CARD OF 'sheavelaw05.PolySums'. -/
def polySumsCard : Claim7 := { stood := { row := polySumsRow, standIns := [], harness := (true, "6a5a1211dd3b75c95cb81789a538ef15338b903d3092f0338afe144c5d425528"), looks := false }, kinds := [], alts := [], laidByText := true, laidKinds := [.data, .data], laidTests := true, laidLooks := .later }
def PolySumsCardSaid : Prop := Claim7.holds Tryd.pinned (.plain (OpenSpec.ofChange polySumsSpec)) polySumsCard

/-- THE TIED CARD OF 'sheavelaw05.PolySame'. -/
def polySameCard : Claim7 := { stood := { row := polySameRow, standIns := [], harness := (true, "6a5a1211dd3b75c95cb81789a538ef15338b903d3092f0338afe144c5d425528"), looks := false }, kinds := [], alts := [], laidByText := true, laidKinds := [.data, .data], laidTests := true, laidLooks := .later }
def PolySameCardSaid : Prop := Claim7.holds Tryd.pinned (.plain (OpenSpec.ofChange polySameSpec)) polySameCard

/-- THE TIED CARD OF 'sheavelaw05.PolyTrims'. -/
def polyTrimsCard : Claim7 := { stood := { row := polyTrimsRow, standIns := [], harness := (true, "6a5a1211dd3b75c95cb81789a538ef15338b903d3092f0338afe144c5d425528"), looks := false }, kinds := [], alts := [], laidByText := true, laidKinds := [.data, .data], laidTests := true, laidLooks := .later }
def PolyTrimsCardSaid : Prop := Claim7.holds Tryd.pinned (.plain (OpenSpec.ofChange polyTrimsSpec)) polyTrimsCard

/-- THE TIED CARD OF 'sheavelaw05.PolySteps'. -/
def polyStepsCard : Claim7 := { stood := { row := polyStepsRow, standIns := [], harness := (true, "6a5a1211dd3b75c95cb81789a538ef15338b903d3092f0338afe144c5d425528"), looks := false }, kinds := [], alts := [], laidByText := true, laidKinds := [.data, .data], laidTests := true, laidLooks := .later }
def PolyStepsCardSaid : Prop := Claim7.holds Tryd.pinned (.plain (OpenSpec.ofChange polyStepsSpec)) polyStepsCard

/-- THE TIED CARD OF 'sheavelaw05.PolyHalves'. -/
def polyHalvesCard : Claim7 := { stood := { row := polyHalvesRow, standIns := [], harness := (true, "6a5a1211dd3b75c95cb81789a538ef15338b903d3092f0338afe144c5d425528"), looks := false }, kinds := [], alts := [], laidByText := true, laidKinds := [.data, .data], laidTests := true, laidLooks := .later }
def PolyHalvesCardSaid : Prop := Claim7.holds Tryd.pinned (.plain (OpenSpec.ofChange polyHalvesSpec)) polyHalvesCard

/-- THE SECOND FORM's CARD OF 'sheavelaw05.PolySums'. -/
def polySumsUptoCard : Claim7 := { stood := { row := polySumsUptoRow, standIns := [], harness := (true, "6a5a1211dd3b75c95cb81789a538ef15338b903d3092f0338afe144c5d425528"), looks := false }, kinds := [], alts := [], laidByText := true, laidKinds := [.data, .data], laidTests := true, laidLooks := .later }
def PolySumsUptoCardSaid : Prop := Claim7.holds Tryd.pinned (.plain (OpenSpec.upto polySumsSpec)) polySumsUptoCard

/-- THE SECOND FORM's CARD OF 'sheavelaw05.PolySame'. -/
def polySameUptoCard : Claim7 := { stood := { row := polySameUptoRow, standIns := [], harness := (true, "6a5a1211dd3b75c95cb81789a538ef15338b903d3092f0338afe144c5d425528"), looks := false }, kinds := [], alts := [], laidByText := true, laidKinds := [.data, .data], laidTests := true, laidLooks := .later }
def PolySameUptoCardSaid : Prop := Claim7.holds Tryd.pinned (.plain (OpenSpec.upto polySameSpec)) polySameUptoCard

/-- THE SECOND FORM's CARD OF 'sheavelaw05.PolyTrims'. -/
def polyTrimsUptoCard : Claim7 := { stood := { row := polyTrimsUptoRow, standIns := [], harness := (true, "6a5a1211dd3b75c95cb81789a538ef15338b903d3092f0338afe144c5d425528"), looks := false }, kinds := [], alts := [], laidByText := true, laidKinds := [.data, .data], laidTests := true, laidLooks := .later }
def PolyTrimsUptoCardSaid : Prop := Claim7.holds Tryd.pinned (.plain (OpenSpec.upto polyTrimsSpec)) polyTrimsUptoCard

/-- THE SECOND FORM's CARD OF 'sheavelaw05.PolySteps'. -/
def polyStepsUptoCard : Claim7 := { stood := { row := polyStepsUptoRow, standIns := [], harness := (true, "6a5a1211dd3b75c95cb81789a538ef15338b903d3092f0338afe144c5d425528"), looks := false }, kinds := [], alts := [], laidByText := true, laidKinds := [.data, .data], laidTests := true, laidLooks := .later }
def PolyStepsUptoCardSaid : Prop := Claim7.holds Tryd.pinned (.plain (OpenSpec.upto polyStepsSpec)) polyStepsUptoCard

/-- THE SECOND FORM's CARD OF 'sheavelaw05.PolyHalves'. -/
def polyHalvesUptoCard : Claim7 := { stood := { row := polyHalvesUptoRow, standIns := [], harness := (true, "6a5a1211dd3b75c95cb81789a538ef15338b903d3092f0338afe144c5d425528"), looks := false }, kinds := [], alts := [], laidByText := true, laidKinds := [.data, .data], laidTests := true, laidLooks := .later }
def PolyHalvesUptoCardSaid : Prop := Claim7.holds Tryd.pinned (.plain (OpenSpec.upto polyHalvesSpec)) polyHalvesUptoCard
end Rows
end Go.Proofs.YtnphoennagmiaaaDoor
