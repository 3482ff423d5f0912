/-
  DERIVED. GIVEN WITH THE SEED: THE CARDS: each row of YthephehecapmhabDoorRows.lean that lists a variable, with what it lists TIED to the program's text (the seventh form; the later family's looks); each row that meets fmt, with fmt's text TOLD by the authors' own Lean function (tested against real Go, not proved from fmt's source: count such statements apart). THE CARD IS WHAT COUNTS. Prove the row's statement (the work); the ties are given (YthephehecapmhabDoorTie.lean); close each card by the builder's one call (the guide's Derived/Test/ToyasCard.lean, 'card_holds'). Laid BY PROGRAM, IN A SANDBOX (cutbox-door.mjs). By AI agents, Wed Nov 11 2026. No macro, syntax, notation, axiom, sorry.
-/
import Derived.Test.YthephehecapmhabDoorRows
import GoSem.ClaimSeven
namespace Go.Proofs.YthephehecapmhabDoor
namespace Rows

/-- THE TIED CARD OF 'sheavelaw02.LadderBits'. -/
def ladderBitsCard : Claim7 := { stood := { row := ladderBitsRow, standIns := [], harness := (true, "c00d0202121a8ab3ca8006e2475c9e7b5877809051bcc693b07bd90934c3f9d0"), looks := false }, kinds := [], alts := [], laidByText := true, laidKinds := [.data, .data, .data], laidTests := true, laidLooks := .later }
def LadderBitsCardSaid : Prop := Claim7.holds Tryd.pinned (.plain (OpenSpec.ofChange ladderBitsSpec)) ladderBitsCard

/-- THE TIED CARD OF 'sheavelaw02.LadderNine'. -/
def ladderNineCard : Claim7 := { stood := { row := ladderNineRow, standIns := [], harness := (true, "c00d0202121a8ab3ca8006e2475c9e7b5877809051bcc693b07bd90934c3f9d0"), looks := false }, kinds := [], alts := [], laidByText := true, laidKinds := [.data, .data, .data], laidTests := true, laidLooks := .later }
def LadderNineCardSaid : Prop := Claim7.holds Tryd.pinned (.plain (OpenSpec.ofChange ladderNineSpec)) ladderNineCard

/-- THE SECOND FORM's CARD OF 'sheavelaw02.LadderBits'. -/
def ladderBitsUptoCard : Claim7 := { stood := { row := ladderBitsUptoRow, standIns := [], harness := (true, "c00d0202121a8ab3ca8006e2475c9e7b5877809051bcc693b07bd90934c3f9d0"), looks := false }, kinds := [], alts := [], laidByText := true, laidKinds := [.data, .data, .data], laidTests := true, laidLooks := .later }
def LadderBitsUptoCardSaid : Prop := Claim7.holds Tryd.pinned (.plain (OpenSpec.upto ladderBitsSpec)) ladderBitsUptoCard

/-- THE SECOND FORM's CARD OF 'sheavelaw02.LadderNine'. -/
def ladderNineUptoCard : Claim7 := { stood := { row := ladderNineUptoRow, standIns := [], harness := (true, "c00d0202121a8ab3ca8006e2475c9e7b5877809051bcc693b07bd90934c3f9d0"), looks := false }, kinds := [], alts := [], laidByText := true, laidKinds := [.data, .data, .data], laidTests := true, laidLooks := .later }
def LadderNineUptoCardSaid : Prop := Claim7.holds Tryd.pinned (.plain (OpenSpec.upto ladderNineSpec)) ladderNineUptoCard
end Rows
end Go.Proofs.YthephehecapmhabDoor
