/-
  DERIVED. GIVEN WITH THE SEED: THE CARDS: each row of YtknodedhcdpbiaaGreatDoorRows.lean that lists a variable, with what it lists TIED to the program's text (the seventh form; the later family's looks); each row that meets fmt, with fmt's text TOLD by the authors' own Lean function (tested against real Go, not proved from fmt's source: count such statements apart). THE CARD IS WHAT COUNTS. Prove the row's statement (the work); the ties are given (YtknodedhcdpbiaaGreatDoorTie.lean); close each card by the builder's one call (the guide's Derived/Test/ToyasCard.lean, 'card_holds'). Laid BY PROGRAM, IN A SANDBOX (cutbox-door.mjs). By AI agents, Wed Nov 11 2026. No macro, syntax, notation, axiom, sorry.
-/
import Derived.Test.YtknodedhcdpbiaaGreatDoorRows
import GoSem.ClaimSeven
namespace Go.Proofs.YtknodedhcdpbiaaGreatDoor
namespace Rows

/-- THE TIED CARD OF 'sheavelaw16.GuardNonces'. -/
def guardNoncesCard : Claim7 := { stood := { row := guardNoncesRow, standIns := [], harness := (true, "f1749e0bd2f43ad733bc7e7132f75b5bb4f80fafa45a62a0e7f33061c899facc"), looks := false }, kinds := [], alts := [], laidByText := true, laidKinds := [.data, .data, .data, .data, .data, .data, .data, .data], laidTests := true, laidLooks := .later }
def GuardNoncesCardSaid : Prop := Claim7.holds Tryz.pinned (.plain (OpenSpec.ofChange guardNoncesSpec)) guardNoncesCard

/-- THE TIED CARD OF 'sheavelaw16.GuardOnce'. -/
def guardOnceCard : Claim7 := { stood := { row := guardOnceRow, standIns := [], harness := (true, "f1749e0bd2f43ad733bc7e7132f75b5bb4f80fafa45a62a0e7f33061c899facc"), looks := false }, kinds := [], alts := [], laidByText := true, laidKinds := [.data, .data, .data, .data, .data, .data, .data, .data], laidTests := true, laidLooks := .later }
def GuardOnceCardSaid : Prop := Claim7.holds Tryz.pinned (.plain (OpenSpec.ofChange guardOnceSpec)) guardOnceCard

/-- THE TIED CARD OF 'sheavelaw16.GuardEnds'. -/
def guardEndsCard : Claim7 := { stood := { row := guardEndsRow, standIns := [], harness := (true, "f1749e0bd2f43ad733bc7e7132f75b5bb4f80fafa45a62a0e7f33061c899facc"), looks := false }, kinds := [], alts := [], laidByText := true, laidKinds := [.data, .data, .data, .data, .data, .data, .data, .data], laidTests := true, laidLooks := .later }
def GuardEndsCardSaid : Prop := Claim7.holds Tryz.pinned (.plain (OpenSpec.ofChange guardEndsSpec)) guardEndsCard

/-- THE TIED CARD OF 'sheavelaw16.GuardEpochs'. -/
def guardEpochsCard : Claim7 := { stood := { row := guardEpochsRow, standIns := [], harness := (true, "f1749e0bd2f43ad733bc7e7132f75b5bb4f80fafa45a62a0e7f33061c899facc"), looks := false }, kinds := [], alts := [], laidByText := true, laidKinds := [.data, .data, .data, .data, .data, .data, .data, .data], laidTests := true, laidLooks := .later }
def GuardEpochsCardSaid : Prop := Claim7.holds Tryz.pinned (.plain (OpenSpec.ofChange guardEpochsSpec)) guardEpochsCard

/-- THE TIED CARD OF 'sheavelaw16.GuardOwn'. -/
def guardOwnCard : Claim7 := { stood := { row := guardOwnRow, standIns := [], harness := (true, "f1749e0bd2f43ad733bc7e7132f75b5bb4f80fafa45a62a0e7f33061c899facc"), looks := false }, kinds := [], alts := [], laidByText := true, laidKinds := [.data, .data, .data, .data, .data, .data, .data, .data], laidTests := true, laidLooks := .later }
def GuardOwnCardSaid : Prop := Claim7.holds Tryz.pinned (.plain (OpenSpec.ofChange guardOwnSpec)) guardOwnCard

/-- THE SECOND FORM's CARD OF 'sheavelaw16.GuardNonces'. -/
def guardNoncesUptoCard : Claim7 := { stood := { row := guardNoncesUptoRow, standIns := [], harness := (true, "f1749e0bd2f43ad733bc7e7132f75b5bb4f80fafa45a62a0e7f33061c899facc"), looks := false }, kinds := [], alts := [], laidByText := true, laidKinds := [.data, .data, .data, .data, .data, .data, .data, .data], laidTests := true, laidLooks := .later }
def GuardNoncesUptoCardSaid : Prop := Claim7.holds Tryz.pinned (.plain (OpenSpec.upto guardNoncesSpec)) guardNoncesUptoCard

/-- THE SECOND FORM's CARD OF 'sheavelaw16.GuardOnce'. -/
def guardOnceUptoCard : Claim7 := { stood := { row := guardOnceUptoRow, standIns := [], harness := (true, "f1749e0bd2f43ad733bc7e7132f75b5bb4f80fafa45a62a0e7f33061c899facc"), looks := false }, kinds := [], alts := [], laidByText := true, laidKinds := [.data, .data, .data, .data, .data, .data, .data, .data], laidTests := true, laidLooks := .later }
def GuardOnceUptoCardSaid : Prop := Claim7.holds Tryz.pinned (.plain (OpenSpec.upto guardOnceSpec)) guardOnceUptoCard

/-- THE SECOND FORM's CARD OF 'sheavelaw16.GuardEnds'. -/
def guardEndsUptoCard : Claim7 := { stood := { row := guardEndsUptoRow, standIns := [], harness := (true, "f1749e0bd2f43ad733bc7e7132f75b5bb4f80fafa45a62a0e7f33061c899facc"), looks := false }, kinds := [], alts := [], laidByText := true, laidKinds := [.data, .data, .data, .data, .data, .data, .data, .data], laidTests := true, laidLooks := .later }
def GuardEndsUptoCardSaid : Prop := Claim7.holds Tryz.pinned (.plain (OpenSpec.upto guardEndsSpec)) guardEndsUptoCard

/-- THE SECOND FORM's CARD OF 'sheavelaw16.GuardEpochs'. -/
def guardEpochsUptoCard : Claim7 := { stood := { row := guardEpochsUptoRow, standIns := [], harness := (true, "f1749e0bd2f43ad733bc7e7132f75b5bb4f80fafa45a62a0e7f33061c899facc"), looks := false }, kinds := [], alts := [], laidByText := true, laidKinds := [.data, .data, .data, .data, .data, .data, .data, .data], laidTests := true, laidLooks := .later }
def GuardEpochsUptoCardSaid : Prop := Claim7.holds Tryz.pinned (.plain (OpenSpec.upto guardEpochsSpec)) guardEpochsUptoCard

/-- THE SECOND FORM's CARD OF 'sheavelaw16.GuardOwn'. -/
def guardOwnUptoCard : Claim7 := { stood := { row := guardOwnUptoRow, standIns := [], harness := (true, "f1749e0bd2f43ad733bc7e7132f75b5bb4f80fafa45a62a0e7f33061c899facc"), looks := false }, kinds := [], alts := [], laidByText := true, laidKinds := [.data, .data, .data, .data, .data, .data, .data, .data], laidTests := true, laidLooks := .later }
def GuardOwnUptoCardSaid : Prop := Claim7.holds Tryz.pinned (.plain (OpenSpec.upto guardOwnSpec)) guardOwnUptoCard
end Rows
end Go.Proofs.YtknodedhcdpbiaaGreatDoor
