/-
  DERIVED. GIVEN WITH THE SEED: THE CARDS: each row of YtckohmdmjhaknaaDoorRows.lean that lists a variable, with what it lists TIED to the program's text (the seventh form; the later family's looks); each row that meets fmt, with fmt's text TOLD by the authors' own Lean function (tested against real Go, not proved from fmt's source: count such statements apart). THE CARD IS WHAT COUNTS. Prove the row's statement (the work); the ties are given (YtckohmdmjhaknaaDoorTie.lean); close each card by the builder's one call (the guide's Derived/Test/ToyasCard.lean, 'card_holds'). Laid BY PROGRAM, IN A SANDBOX (cutbox-door.mjs). By AI agents, Wed Nov 11 2026. No macro, syntax, notation, axiom, sorry.
-/
import Derived.Test.YtckohmdmjhaknaaDoorRows
import GoSem.ClaimSeven
namespace Go.Proofs.YtckohmdmjhaknaaDoor
namespace Rows

/-- THE TIED CARD OF 'sheavelaw15.KeysPlays'. -/
def keysPlaysCard : Claim7 := { stood := { row := keysPlaysRow, standIns := [], harness := (true, "05a711edf0d2863d327e6fea78498aafb5926e3dd28f03faa90a1c3cdb9854a8"), looks := false }, kinds := [], alts := [], laidByText := true, laidKinds := [.data, .data, .data], laidTests := true, laidLooks := .later }
def KeysPlaysCardSaid : Prop := Claim7.holds Tryd.pinned (.plain (OpenSpec.ofChange keysPlaysSpec)) keysPlaysCard

/-- THE TIED CARD OF 'sheavelaw15.KeysStay'. -/
def keysStayCard : Claim7 := { stood := { row := keysStayRow, standIns := [], harness := (true, "05a711edf0d2863d327e6fea78498aafb5926e3dd28f03faa90a1c3cdb9854a8"), looks := false }, kinds := [], alts := [], laidByText := true, laidKinds := [.data, .data, .data], laidTests := true, laidLooks := .later }
def KeysStayCardSaid : Prop := Claim7.holds Tryd.pinned (.plain (OpenSpec.ofChange keysStaySpec)) keysStayCard

/-- THE TIED CARD OF 'sheavelaw15.KeysEnd'. -/
def keysEndCard : Claim7 := { stood := { row := keysEndRow, standIns := [], harness := (true, "05a711edf0d2863d327e6fea78498aafb5926e3dd28f03faa90a1c3cdb9854a8"), looks := false }, kinds := [], alts := [], laidByText := true, laidKinds := [.data, .data, .data], laidTests := true, laidLooks := .later }
def KeysEndCardSaid : Prop := Claim7.holds Tryd.pinned (.plain (OpenSpec.ofChange keysEndSpec)) keysEndCard

/-- THE SECOND FORM's CARD OF 'sheavelaw15.KeysPlays'. -/
def keysPlaysUptoCard : Claim7 := { stood := { row := keysPlaysUptoRow, standIns := [], harness := (true, "05a711edf0d2863d327e6fea78498aafb5926e3dd28f03faa90a1c3cdb9854a8"), looks := false }, kinds := [], alts := [], laidByText := true, laidKinds := [.data, .data, .data], laidTests := true, laidLooks := .later }
def KeysPlaysUptoCardSaid : Prop := Claim7.holds Tryd.pinned (.plain (OpenSpec.upto keysPlaysSpec)) keysPlaysUptoCard

/-- THE SECOND FORM's CARD OF 'sheavelaw15.KeysStay'. -/
def keysStayUptoCard : Claim7 := { stood := { row := keysStayUptoRow, standIns := [], harness := (true, "05a711edf0d2863d327e6fea78498aafb5926e3dd28f03faa90a1c3cdb9854a8"), looks := false }, kinds := [], alts := [], laidByText := true, laidKinds := [.data, .data, .data], laidTests := true, laidLooks := .later }
def KeysStayUptoCardSaid : Prop := Claim7.holds Tryd.pinned (.plain (OpenSpec.upto keysStaySpec)) keysStayUptoCard

/-- THE SECOND FORM's CARD OF 'sheavelaw15.KeysEnd'. -/
def keysEndUptoCard : Claim7 := { stood := { row := keysEndUptoRow, standIns := [], harness := (true, "05a711edf0d2863d327e6fea78498aafb5926e3dd28f03faa90a1c3cdb9854a8"), looks := false }, kinds := [], alts := [], laidByText := true, laidKinds := [.data, .data, .data], laidTests := true, laidLooks := .later }
def KeysEndUptoCardSaid : Prop := Claim7.holds Tryd.pinned (.plain (OpenSpec.upto keysEndSpec)) keysEndUptoCard
end Rows
end Go.Proofs.YtckohmdmjhaknaaDoor
