/-
  DERIVED. GIVEN WITH THE SEED: THE CARDS: each row of YtbhhboiofepnhaaDoorRows.lean that lists a variable, with what it lists TIED to the program's text (the seventh form; the later family's looks); each row that meets fmt, with fmt's text TOLD by the authors' own Lean function (tested against real Go, not proved from fmt's source: count such statements apart). THE CARD IS WHAT COUNTS. Prove the row's statement (the work); the ties are given (YtbhhboiofepnhaaDoorTie.lean); close each card by the builder's one call (the guide's Derived/Test/ToyasCard.lean, 'card_holds'). Laid BY PROGRAM, IN A SANDBOX (cutbox-door.mjs). By AI agents, Wed Nov 11 2026. No macro, syntax, notation, axiom, sorry.
-/
import Derived.Test.YtbhhboiofepnhaaDoorRows
import GoSem.ClaimSeven
namespace Go.Proofs.YtbhhboiofepnhaaDoor
namespace Rows

/-- THE TIED CARD OF 'sheavelaw11.PacketPrints'. -/
def packetPrintsCard : Claim7 := { stood := { row := packetPrintsRow, standIns := [], harness := (true, "8d36199786c4f6fc12fcb78b1d4f779d1350f60f501c859edfe5a334bdc745fa"), looks := false }, kinds := [], alts := [], laidByText := true, laidKinds := [.data], laidTests := true, laidLooks := .later }
def PacketPrintsCardSaid : Prop := Claim7.holds Tryd.pinned (.plain (OpenSpec.ofChange packetPrintsSpec)) packetPrintsCard

/-- THE TIED CARD OF 'sheavelaw11.PacketParses'. -/
def packetParsesCard : Claim7 := { stood := { row := packetParsesRow, standIns := [], harness := (true, "8d36199786c4f6fc12fcb78b1d4f779d1350f60f501c859edfe5a334bdc745fa"), looks := false }, kinds := [], alts := [], laidByText := true, laidKinds := [.data], laidTests := true, laidLooks := .later }
def PacketParsesCardSaid : Prop := Claim7.holds Tryd.pinned (.plain (OpenSpec.ofChange packetParsesSpec)) packetParsesCard

/-- THE TIED CARD OF 'sheavelaw11.PacketBack'. -/
def packetBackCard : Claim7 := { stood := { row := packetBackRow, standIns := [], harness := (true, "8d36199786c4f6fc12fcb78b1d4f779d1350f60f501c859edfe5a334bdc745fa"), looks := false }, kinds := [], alts := [], laidByText := true, laidKinds := [.data], laidTests := true, laidLooks := .later }
def PacketBackCardSaid : Prop := Claim7.holds Tryd.pinned (.plain (OpenSpec.ofChange packetBackSpec)) packetBackCard

/-- THE TIED CARD OF 'sheavelaw11.PacketNonces'. -/
def packetNoncesCard : Claim7 := { stood := { row := packetNoncesRow, standIns := [], harness := (true, "8d36199786c4f6fc12fcb78b1d4f779d1350f60f501c859edfe5a334bdc745fa"), looks := false }, kinds := [], alts := [], laidByText := true, laidKinds := [.data], laidTests := true, laidLooks := .later }
def PacketNoncesCardSaid : Prop := Claim7.holds Tryd.pinned (.plain (OpenSpec.ofChange packetNoncesSpec)) packetNoncesCard

/-- THE TIED CARD OF 'sheavelaw11.PacketHeads'. -/
def packetHeadsCard : Claim7 := { stood := { row := packetHeadsRow, standIns := [], harness := (true, "8d36199786c4f6fc12fcb78b1d4f779d1350f60f501c859edfe5a334bdc745fa"), looks := false }, kinds := [], alts := [], laidByText := true, laidKinds := [.data], laidTests := true, laidLooks := .later }
def PacketHeadsCardSaid : Prop := Claim7.holds Tryd.pinned (.plain (OpenSpec.ofChange packetHeadsSpec)) packetHeadsCard

/-- THE SECOND FORM's CARD OF 'sheavelaw11.PacketPrints'. -/
def packetPrintsUptoCard : Claim7 := { stood := { row := packetPrintsUptoRow, standIns := [], harness := (true, "8d36199786c4f6fc12fcb78b1d4f779d1350f60f501c859edfe5a334bdc745fa"), looks := false }, kinds := [], alts := [], laidByText := true, laidKinds := [.data], laidTests := true, laidLooks := .later }
def PacketPrintsUptoCardSaid : Prop := Claim7.holds Tryd.pinned (.plain (OpenSpec.upto packetPrintsSpec)) packetPrintsUptoCard

/-- THE SECOND FORM's CARD OF 'sheavelaw11.PacketParses'. -/
def packetParsesUptoCard : Claim7 := { stood := { row := packetParsesUptoRow, standIns := [], harness := (true, "8d36199786c4f6fc12fcb78b1d4f779d1350f60f501c859edfe5a334bdc745fa"), looks := false }, kinds := [], alts := [], laidByText := true, laidKinds := [.data], laidTests := true, laidLooks := .later }
def PacketParsesUptoCardSaid : Prop := Claim7.holds Tryd.pinned (.plain (OpenSpec.upto packetParsesSpec)) packetParsesUptoCard

/-- THE SECOND FORM's CARD OF 'sheavelaw11.PacketBack'. -/
def packetBackUptoCard : Claim7 := { stood := { row := packetBackUptoRow, standIns := [], harness := (true, "8d36199786c4f6fc12fcb78b1d4f779d1350f60f501c859edfe5a334bdc745fa"), looks := false }, kinds := [], alts := [], laidByText := true, laidKinds := [.data], laidTests := true, laidLooks := .later }
def PacketBackUptoCardSaid : Prop := Claim7.holds Tryd.pinned (.plain (OpenSpec.upto packetBackSpec)) packetBackUptoCard

/-- THE SECOND FORM's CARD OF 'sheavelaw11.PacketNonces'. -/
def packetNoncesUptoCard : Claim7 := { stood := { row := packetNoncesUptoRow, standIns := [], harness := (true, "8d36199786c4f6fc12fcb78b1d4f779d1350f60f501c859edfe5a334bdc745fa"), looks := false }, kinds := [], alts := [], laidByText := true, laidKinds := [.data], laidTests := true, laidLooks := .later }
def PacketNoncesUptoCardSaid : Prop := Claim7.holds Tryd.pinned (.plain (OpenSpec.upto packetNoncesSpec)) packetNoncesUptoCard

/-- THE SECOND FORM's CARD OF 'sheavelaw11.PacketHeads'. -/
def packetHeadsUptoCard : Claim7 := { stood := { row := packetHeadsUptoRow, standIns := [], harness := (true, "8d36199786c4f6fc12fcb78b1d4f779d1350f60f501c859edfe5a334bdc745fa"), looks := false }, kinds := [], alts := [], laidByText := true, laidKinds := [.data], laidTests := true, laidLooks := .later }
def PacketHeadsUptoCardSaid : Prop := Claim7.holds Tryd.pinned (.plain (OpenSpec.upto packetHeadsSpec)) packetHeadsUptoCard
end Rows
end Go.Proofs.YtbhhboiofepnhaaDoor
