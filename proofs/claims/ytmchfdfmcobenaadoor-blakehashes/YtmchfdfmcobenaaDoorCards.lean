/-
  DERIVED. GIVEN WITH THE SEED: THE CARDS: each row of YtmchfdfmcobenaaDoorRows.lean that lists a variable, with what it lists TIED to the program's text (the seventh form; the later family's looks); each row that meets fmt, with fmt's text TOLD by the authors' own Lean function (tested against real Go, not proved from fmt's source: count such statements apart). THE CARD IS WHAT COUNTS. Prove the row's statement (the work); the ties are given (YtmchfdfmcobenaaDoorTie.lean); close each card by the builder's one call (the guide's Derived/Test/ToyasCard.lean, 'card_holds'). Laid BY PROGRAM, IN A SANDBOX (cutbox-door.mjs). By AI agents, Wed Nov 11 2026. No macro, syntax, notation, axiom, sorry.
-/
import Derived.Test.YtmchfdfmcobenaaDoorRows
import GoSem.ClaimSeven
namespace Go.Proofs.YtmchfdfmcobenaaDoor
namespace Rows

/-- THE TIED CARD OF 'sheavelaw06.BlakeSums'. -/
def blakeSumsCard : Claim7 := { stood := { row := blakeSumsRow, standIns := [], harness := (true, "69ec90a050b90b7d6d3a7ac63070ff1d1ecad0d35baf3e4dbb0a64c948d656b4"), looks := false }, kinds := [], alts := [], laidByText := true, laidKinds := [.data, .data, .data], laidTests := true, laidLooks := .later }
def BlakeSumsCardSaid : Prop := Claim7.holds Tryd.pinned (.plain (OpenSpec.ofChange blakeSumsSpec)) blakeSumsCard

/-- THE TIED CARD OF 'sheavelaw06.BlakeHashes'. -/
def blakeHashesCard : Claim7 := { stood := { row := blakeHashesRow, standIns := [], harness := (true, "69ec90a050b90b7d6d3a7ac63070ff1d1ecad0d35baf3e4dbb0a64c948d656b4"), looks := false }, kinds := [], alts := [], laidByText := true, laidKinds := [.data, .data, .data], laidTests := true, laidLooks := .later }
def BlakeHashesCardSaid : Prop := Claim7.holds Tryd.pinned (.plain (OpenSpec.ofChange blakeHashesSpec)) blakeHashesCard

/-- THE TIED CARD OF 'sheavelaw06.BlakeMacs'. -/
def blakeMacsCard : Claim7 := { stood := { row := blakeMacsRow, standIns := [], harness := (true, "69ec90a050b90b7d6d3a7ac63070ff1d1ecad0d35baf3e4dbb0a64c948d656b4"), looks := false }, kinds := [], alts := [], laidByText := true, laidKinds := [.data, .data, .data], laidTests := true, laidLooks := .later }
def BlakeMacsCardSaid : Prop := Claim7.holds Tryd.pinned (.plain (OpenSpec.ofChange blakeMacsSpec)) blakeMacsCard

/-- THE TIED CARD OF 'sheavelaw06.BlakeNoughts'. -/
def blakeNoughtsCard : Claim7 := { stood := { row := blakeNoughtsRow, standIns := [], harness := (true, "69ec90a050b90b7d6d3a7ac63070ff1d1ecad0d35baf3e4dbb0a64c948d656b4"), looks := false }, kinds := [], alts := [], laidByText := true, laidKinds := [.data, .data, .data], laidTests := true, laidLooks := .later }
def BlakeNoughtsCardSaid : Prop := Claim7.holds Tryd.pinned (.plain (OpenSpec.ofChange blakeNoughtsSpec)) blakeNoughtsCard

/-- THE TIED CARD OF 'sheavelaw06.BlakeParts'. -/
def blakePartsCard : Claim7 := { stood := { row := blakePartsRow, standIns := [], harness := (true, "69ec90a050b90b7d6d3a7ac63070ff1d1ecad0d35baf3e4dbb0a64c948d656b4"), looks := false }, kinds := [], alts := [], laidByText := true, laidKinds := [.data, .data, .data], laidTests := true, laidLooks := .later }
def BlakePartsCardSaid : Prop := Claim7.holds Tryd.pinned (.plain (OpenSpec.ofChange blakePartsSpec)) blakePartsCard

/-- THE TIED CARD OF 'sheavelaw06.BlakeMade'. -/
def blakeMadeCard : Claim7 := { stood := { row := blakeMadeRow, standIns := [], harness := (true, "69ec90a050b90b7d6d3a7ac63070ff1d1ecad0d35baf3e4dbb0a64c948d656b4"), looks := false }, kinds := [], alts := [], laidByText := true, laidKinds := [.data, .data, .data], laidTests := true, laidLooks := .later }
def BlakeMadeCardSaid : Prop := Claim7.holds Tryd.pinned (.plain (OpenSpec.ofChange blakeMadeSpec)) blakeMadeCard

/-- THE SECOND FORM's CARD OF 'sheavelaw06.BlakeSums'. -/
def blakeSumsUptoCard : Claim7 := { stood := { row := blakeSumsUptoRow, standIns := [], harness := (true, "69ec90a050b90b7d6d3a7ac63070ff1d1ecad0d35baf3e4dbb0a64c948d656b4"), looks := false }, kinds := [], alts := [], laidByText := true, laidKinds := [.data, .data, .data], laidTests := true, laidLooks := .later }
def BlakeSumsUptoCardSaid : Prop := Claim7.holds Tryd.pinned (.plain (OpenSpec.upto blakeSumsSpec)) blakeSumsUptoCard

/-- THE SECOND FORM's CARD OF 'sheavelaw06.BlakeHashes'. -/
def blakeHashesUptoCard : Claim7 := { stood := { row := blakeHashesUptoRow, standIns := [], harness := (true, "69ec90a050b90b7d6d3a7ac63070ff1d1ecad0d35baf3e4dbb0a64c948d656b4"), looks := false }, kinds := [], alts := [], laidByText := true, laidKinds := [.data, .data, .data], laidTests := true, laidLooks := .later }
def BlakeHashesUptoCardSaid : Prop := Claim7.holds Tryd.pinned (.plain (OpenSpec.upto blakeHashesSpec)) blakeHashesUptoCard

/-- THE SECOND FORM's CARD OF 'sheavelaw06.BlakeMacs'. -/
def blakeMacsUptoCard : Claim7 := { stood := { row := blakeMacsUptoRow, standIns := [], harness := (true, "69ec90a050b90b7d6d3a7ac63070ff1d1ecad0d35baf3e4dbb0a64c948d656b4"), looks := false }, kinds := [], alts := [], laidByText := true, laidKinds := [.data, .data, .data], laidTests := true, laidLooks := .later }
def BlakeMacsUptoCardSaid : Prop := Claim7.holds Tryd.pinned (.plain (OpenSpec.upto blakeMacsSpec)) blakeMacsUptoCard

/-- THE SECOND FORM's CARD OF 'sheavelaw06.BlakeNoughts'. -/
def blakeNoughtsUptoCard : Claim7 := { stood := { row := blakeNoughtsUptoRow, standIns := [], harness := (true, "69ec90a050b90b7d6d3a7ac63070ff1d1ecad0d35baf3e4dbb0a64c948d656b4"), looks := false }, kinds := [], alts := [], laidByText := true, laidKinds := [.data, .data, .data], laidTests := true, laidLooks := .later }
def BlakeNoughtsUptoCardSaid : Prop := Claim7.holds Tryd.pinned (.plain (OpenSpec.upto blakeNoughtsSpec)) blakeNoughtsUptoCard

/-- THE SECOND FORM's CARD OF 'sheavelaw06.BlakeParts'. -/
def blakePartsUptoCard : Claim7 := { stood := { row := blakePartsUptoRow, standIns := [], harness := (true, "69ec90a050b90b7d6d3a7ac63070ff1d1ecad0d35baf3e4dbb0a64c948d656b4"), looks := false }, kinds := [], alts := [], laidByText := true, laidKinds := [.data, .data, .data], laidTests := true, laidLooks := .later }
def BlakePartsUptoCardSaid : Prop := Claim7.holds Tryd.pinned (.plain (OpenSpec.upto blakePartsSpec)) blakePartsUptoCard

/-- THE SECOND FORM's CARD OF 'sheavelaw06.BlakeMade'. -/
def blakeMadeUptoCard : Claim7 := { stood := { row := blakeMadeUptoRow, standIns := [], harness := (true, "69ec90a050b90b7d6d3a7ac63070ff1d1ecad0d35baf3e4dbb0a64c948d656b4"), looks := false }, kinds := [], alts := [], laidByText := true, laidKinds := [.data, .data, .data], laidTests := true, laidLooks := .later }
def BlakeMadeUptoCardSaid : Prop := Claim7.holds Tryd.pinned (.plain (OpenSpec.upto blakeMadeSpec)) blakeMadeUptoCard
end Rows
end Go.Proofs.YtmchfdfmcobenaaDoor
