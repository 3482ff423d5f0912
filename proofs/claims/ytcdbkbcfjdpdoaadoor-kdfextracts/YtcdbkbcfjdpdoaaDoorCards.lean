/-
  DERIVED. GIVEN WITH THE SEED: THE CARDS: each row of YtcdbkbcfjdpdoaaDoorRows.lean that lists a variable, with what it lists TIED to the program's text (the seventh form; the later family's looks); each row that meets fmt, with fmt's text TOLD by the authors' own Lean function (tested against real Go, not proved from fmt's source: count such statements apart). THE CARD IS WHAT COUNTS. Prove the row's statement (the work); the ties are given (YtcdbkbcfjdpdoaaDoorTie.lean); close each card by the builder's one call (the guide's Derived/Test/ToyasCard.lean, 'card_holds'). Laid BY PROGRAM, IN A SANDBOX (cutbox-door.mjs). By AI agents, Wed Nov 11 2026. No macro, syntax, notation, axiom, sorry.
-/
import Derived.Test.YtcdbkbcfjdpdoaaDoorRows
import GoSem.ClaimSeven
namespace Go.Proofs.YtcdbkbcfjdpdoaaDoor
namespace Rows

/-- THE TIED CARD OF 'sheavelaw08.KdfExtracts'. -/
def kdfExtractsCard : Claim7 := { stood := { row := kdfExtractsRow, standIns := [], harness := (true, "839c596068fbcb2eb783ed7a5e6d642ce09818128d5943a1960957cb2e7dbcad"), looks := false }, kinds := [], alts := [], laidByText := true, laidKinds := [.data, .data, .data], laidTests := true, laidLooks := .later }
def KdfExtractsCardSaid : Prop := Claim7.holds Tryd.pinned (.plain (OpenSpec.ofChange kdfExtractsSpec)) kdfExtractsCard

/-- THE TIED CARD OF 'sheavelaw08.KdfExpands'. -/
def kdfExpandsCard : Claim7 := { stood := { row := kdfExpandsRow, standIns := [], harness := (true, "839c596068fbcb2eb783ed7a5e6d642ce09818128d5943a1960957cb2e7dbcad"), looks := false }, kinds := [], alts := [], laidByText := true, laidKinds := [.data, .data, .data], laidTests := true, laidLooks := .later }
def KdfExpandsCardSaid : Prop := Claim7.holds Tryd.pinned (.plain (OpenSpec.ofChange kdfExpandsSpec)) kdfExpandsCard

/-- THE TIED CARD OF 'sheavelaw08.KdfPrefixes'. -/
def kdfPrefixesCard : Claim7 := { stood := { row := kdfPrefixesRow, standIns := [], harness := (true, "839c596068fbcb2eb783ed7a5e6d642ce09818128d5943a1960957cb2e7dbcad"), looks := false }, kinds := [], alts := [], laidByText := true, laidKinds := [.data, .data, .data], laidTests := true, laidLooks := .later }
def KdfPrefixesCardSaid : Prop := Claim7.holds Tryd.pinned (.plain (OpenSpec.ofChange kdfPrefixesSpec)) kdfPrefixesCard

/-- THE TIED CARD OF 'sheavelaw08.KdfChains'. -/
def kdfChainsCard : Claim7 := { stood := { row := kdfChainsRow, standIns := [], harness := (true, "839c596068fbcb2eb783ed7a5e6d642ce09818128d5943a1960957cb2e7dbcad"), looks := false }, kinds := [], alts := [], laidByText := true, laidKinds := [.data, .data, .data], laidTests := true, laidLooks := .later }
def KdfChainsCardSaid : Prop := Claim7.holds Tryd.pinned (.plain (OpenSpec.ofChange kdfChainsSpec)) kdfChainsCard

/-- THE TIED CARD OF 'sheavelaw08.KdfEpochs'. -/
def kdfEpochsCard : Claim7 := { stood := { row := kdfEpochsRow, standIns := [], harness := (true, "839c596068fbcb2eb783ed7a5e6d642ce09818128d5943a1960957cb2e7dbcad"), looks := false }, kinds := [], alts := [], laidByText := true, laidKinds := [.data, .data, .data], laidTests := true, laidLooks := .later }
def KdfEpochsCardSaid : Prop := Claim7.holds Tryd.pinned (.plain (OpenSpec.ofChange kdfEpochsSpec)) kdfEpochsCard

/-- THE TIED CARD OF 'sheavelaw08.KdfSalts'. -/
def kdfSaltsCard : Claim7 := { stood := { row := kdfSaltsRow, standIns := [], harness := (true, "839c596068fbcb2eb783ed7a5e6d642ce09818128d5943a1960957cb2e7dbcad"), looks := false }, kinds := [], alts := [], laidByText := true, laidKinds := [.data, .data, .data], laidTests := true, laidLooks := .later }
def KdfSaltsCardSaid : Prop := Claim7.holds Tryd.pinned (.plain (OpenSpec.ofChange kdfSaltsSpec)) kdfSaltsCard

/-- THE SECOND FORM's CARD OF 'sheavelaw08.KdfExtracts'. -/
def kdfExtractsUptoCard : Claim7 := { stood := { row := kdfExtractsUptoRow, standIns := [], harness := (true, "839c596068fbcb2eb783ed7a5e6d642ce09818128d5943a1960957cb2e7dbcad"), looks := false }, kinds := [], alts := [], laidByText := true, laidKinds := [.data, .data, .data], laidTests := true, laidLooks := .later }
def KdfExtractsUptoCardSaid : Prop := Claim7.holds Tryd.pinned (.plain (OpenSpec.upto kdfExtractsSpec)) kdfExtractsUptoCard

/-- THE SECOND FORM's CARD OF 'sheavelaw08.KdfExpands'. -/
def kdfExpandsUptoCard : Claim7 := { stood := { row := kdfExpandsUptoRow, standIns := [], harness := (true, "839c596068fbcb2eb783ed7a5e6d642ce09818128d5943a1960957cb2e7dbcad"), looks := false }, kinds := [], alts := [], laidByText := true, laidKinds := [.data, .data, .data], laidTests := true, laidLooks := .later }
def KdfExpandsUptoCardSaid : Prop := Claim7.holds Tryd.pinned (.plain (OpenSpec.upto kdfExpandsSpec)) kdfExpandsUptoCard

/-- THE SECOND FORM's CARD OF 'sheavelaw08.KdfPrefixes'. -/
def kdfPrefixesUptoCard : Claim7 := { stood := { row := kdfPrefixesUptoRow, standIns := [], harness := (true, "839c596068fbcb2eb783ed7a5e6d642ce09818128d5943a1960957cb2e7dbcad"), looks := false }, kinds := [], alts := [], laidByText := true, laidKinds := [.data, .data, .data], laidTests := true, laidLooks := .later }
def KdfPrefixesUptoCardSaid : Prop := Claim7.holds Tryd.pinned (.plain (OpenSpec.upto kdfPrefixesSpec)) kdfPrefixesUptoCard

/-- THE SECOND FORM's CARD OF 'sheavelaw08.KdfChains'. -/
def kdfChainsUptoCard : Claim7 := { stood := { row := kdfChainsUptoRow, standIns := [], harness := (true, "839c596068fbcb2eb783ed7a5e6d642ce09818128d5943a1960957cb2e7dbcad"), looks := false }, kinds := [], alts := [], laidByText := true, laidKinds := [.data, .data, .data], laidTests := true, laidLooks := .later }
def KdfChainsUptoCardSaid : Prop := Claim7.holds Tryd.pinned (.plain (OpenSpec.upto kdfChainsSpec)) kdfChainsUptoCard

/-- THE SECOND FORM's CARD OF 'sheavelaw08.KdfEpochs'. -/
def kdfEpochsUptoCard : Claim7 := { stood := { row := kdfEpochsUptoRow, standIns := [], harness := (true, "839c596068fbcb2eb783ed7a5e6d642ce09818128d5943a1960957cb2e7dbcad"), looks := false }, kinds := [], alts := [], laidByText := true, laidKinds := [.data, .data, .data], laidTests := true, laidLooks := .later }
def KdfEpochsUptoCardSaid : Prop := Claim7.holds Tryd.pinned (.plain (OpenSpec.upto kdfEpochsSpec)) kdfEpochsUptoCard

/-- THE SECOND FORM's CARD OF 'sheavelaw08.KdfSalts'. -/
def kdfSaltsUptoCard : Claim7 := { stood := { row := kdfSaltsUptoRow, standIns := [], harness := (true, "839c596068fbcb2eb783ed7a5e6d642ce09818128d5943a1960957cb2e7dbcad"), looks := false }, kinds := [], alts := [], laidByText := true, laidKinds := [.data, .data, .data], laidTests := true, laidLooks := .later }
def KdfSaltsUptoCardSaid : Prop := Claim7.holds Tryd.pinned (.plain (OpenSpec.upto kdfSaltsSpec)) kdfSaltsUptoCard
end Rows
end Go.Proofs.YtcdbkbcfjdpdoaaDoor
