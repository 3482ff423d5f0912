/-
  DERIVED. GIVEN WITH THE SEED: THE CARDS: each row of YtjddngedifgneabDoorRows.lean that lists a variable, with what it lists TIED to the program's text (the seventh form; the later family's looks); each row that meets fmt, with fmt's text TOLD by the authors' own Lean function (tested against real Go, not proved from fmt's source: count such statements apart). THE CARD IS WHAT COUNTS. Prove the row's statement (the work); the ties are given (YtjddngedifgneabDoorTie.lean); close each card by the builder's one call (the guide's Derived/Test/ToyasCard.lean, 'card_holds'). Laid BY PROGRAM, IN A SANDBOX (cutbox-door.mjs). By AI agents, Wed Nov 11 2026. No macro, syntax, notation, axiom, sorry.
-/
import Derived.Test.YtjddngedifgneabDoorRows
import GoSem.ClaimSeven
namespace Go.Proofs.YtjddngedifgneabDoor
namespace Rows

/-- THE TIED CARD OF 'sheavelaw01.CurveInverse'. -/
def curveInverseCard : Claim7 := { stood := { row := curveInverseRow, standIns := [], harness := (true, "e320b8d4eec53c7b498c189e91e70ea0663b058026400a3b62e2bd64263d1748"), looks := false }, kinds := [], alts := [], laidByText := true, laidKinds := [.data, .data], laidTests := true, laidLooks := .later }
def CurveInverseCardSaid : Prop := Claim7.holds Tryd.pinned (.plain (OpenSpec.ofChange curveInverseSpec)) curveInverseCard

/-- THE TIED CARD OF 'sheavelaw01.CurveSides'. -/
def curveSidesCard : Claim7 := { stood := { row := curveSidesRow, standIns := [], harness := (true, "e320b8d4eec53c7b498c189e91e70ea0663b058026400a3b62e2bd64263d1748"), looks := false }, kinds := [], alts := [], laidByText := true, laidKinds := [.data, .data], laidTests := true, laidLooks := .later }
def CurveSidesCardSaid : Prop := Claim7.holds Tryd.pinned (.plain (OpenSpec.ofChange curveSidesSpec)) curveSidesCard

/-- THE TIED CARD OF 'sheavelaw01.CurveGroups'. -/
def curveGroupsCard : Claim7 := { stood := { row := curveGroupsRow, standIns := [], harness := (true, "e320b8d4eec53c7b498c189e91e70ea0663b058026400a3b62e2bd64263d1748"), looks := false }, kinds := [], alts := [], laidByText := true, laidKinds := [.data, .data], laidTests := true, laidLooks := .later }
def CurveGroupsCardSaid : Prop := Claim7.holds Tryd.pinned (.plain (OpenSpec.ofChange curveGroupsSpec)) curveGroupsCard

/-- THE TIED CARD OF 'sheavelaw01.CurveSpreads'. -/
def curveSpreadsCard : Claim7 := { stood := { row := curveSpreadsRow, standIns := [], harness := (true, "e320b8d4eec53c7b498c189e91e70ea0663b058026400a3b62e2bd64263d1748"), looks := false }, kinds := [], alts := [], laidByText := true, laidKinds := [.data, .data], laidTests := true, laidLooks := .later }
def CurveSpreadsCardSaid : Prop := Claim7.holds Tryd.pinned (.plain (OpenSpec.ofChange curveSpreadsSpec)) curveSpreadsCard

/-- THE TIED CARD OF 'sheavelaw01.CurveUndoes'. -/
def curveUndoesCard : Claim7 := { stood := { row := curveUndoesRow, standIns := [], harness := (true, "e320b8d4eec53c7b498c189e91e70ea0663b058026400a3b62e2bd64263d1748"), looks := false }, kinds := [], alts := [], laidByText := true, laidKinds := [.data, .data], laidTests := true, laidLooks := .later }
def CurveUndoesCardSaid : Prop := Claim7.holds Tryd.pinned (.plain (OpenSpec.ofChange curveUndoesSpec)) curveUndoesCard

/-- THE TIED CARD OF 'sheavelaw01.CurveSame'. -/
def curveSameCard : Claim7 := { stood := { row := curveSameRow, standIns := [], harness := (true, "e320b8d4eec53c7b498c189e91e70ea0663b058026400a3b62e2bd64263d1748"), looks := false }, kinds := [], alts := [], laidByText := true, laidKinds := [.data, .data], laidTests := true, laidLooks := .later }
def CurveSameCardSaid : Prop := Claim7.holds Tryd.pinned (.plain (OpenSpec.ofChange curveSameSpec)) curveSameCard

/-- THE SECOND FORM's CARD OF 'sheavelaw01.CurveInverse'. -/
def curveInverseUptoCard : Claim7 := { stood := { row := curveInverseUptoRow, standIns := [], harness := (true, "e320b8d4eec53c7b498c189e91e70ea0663b058026400a3b62e2bd64263d1748"), looks := false }, kinds := [], alts := [], laidByText := true, laidKinds := [.data, .data], laidTests := true, laidLooks := .later }
def CurveInverseUptoCardSaid : Prop := Claim7.holds Tryd.pinned (.plain (OpenSpec.upto curveInverseSpec)) curveInverseUptoCard

/-- THE SECOND FORM's CARD OF 'sheavelaw01.CurveSides'. -/
def curveSidesUptoCard : Claim7 := { stood := { row := curveSidesUptoRow, standIns := [], harness := (true, "e320b8d4eec53c7b498c189e91e70ea0663b058026400a3b62e2bd64263d1748"), looks := false }, kinds := [], alts := [], laidByText := true, laidKinds := [.data, .data], laidTests := true, laidLooks := .later }
def CurveSidesUptoCardSaid : Prop := Claim7.holds Tryd.pinned (.plain (OpenSpec.upto curveSidesSpec)) curveSidesUptoCard

/-- THE SECOND FORM's CARD OF 'sheavelaw01.CurveGroups'. -/
def curveGroupsUptoCard : Claim7 := { stood := { row := curveGroupsUptoRow, standIns := [], harness := (true, "e320b8d4eec53c7b498c189e91e70ea0663b058026400a3b62e2bd64263d1748"), looks := false }, kinds := [], alts := [], laidByText := true, laidKinds := [.data, .data], laidTests := true, laidLooks := .later }
def CurveGroupsUptoCardSaid : Prop := Claim7.holds Tryd.pinned (.plain (OpenSpec.upto curveGroupsSpec)) curveGroupsUptoCard

/-- THE SECOND FORM's CARD OF 'sheavelaw01.CurveSpreads'. -/
def curveSpreadsUptoCard : Claim7 := { stood := { row := curveSpreadsUptoRow, standIns := [], harness := (true, "e320b8d4eec53c7b498c189e91e70ea0663b058026400a3b62e2bd64263d1748"), looks := false }, kinds := [], alts := [], laidByText := true, laidKinds := [.data, .data], laidTests := true, laidLooks := .later }
def CurveSpreadsUptoCardSaid : Prop := Claim7.holds Tryd.pinned (.plain (OpenSpec.upto curveSpreadsSpec)) curveSpreadsUptoCard

/-- THE SECOND FORM's CARD OF 'sheavelaw01.CurveUndoes'. -/
def curveUndoesUptoCard : Claim7 := { stood := { row := curveUndoesUptoRow, standIns := [], harness := (true, "e320b8d4eec53c7b498c189e91e70ea0663b058026400a3b62e2bd64263d1748"), looks := false }, kinds := [], alts := [], laidByText := true, laidKinds := [.data, .data], laidTests := true, laidLooks := .later }
def CurveUndoesUptoCardSaid : Prop := Claim7.holds Tryd.pinned (.plain (OpenSpec.upto curveUndoesSpec)) curveUndoesUptoCard

/-- THE SECOND FORM's CARD OF 'sheavelaw01.CurveSame'. -/
def curveSameUptoCard : Claim7 := { stood := { row := curveSameUptoRow, standIns := [], harness := (true, "e320b8d4eec53c7b498c189e91e70ea0663b058026400a3b62e2bd64263d1748"), looks := false }, kinds := [], alts := [], laidByText := true, laidKinds := [.data, .data], laidTests := true, laidLooks := .later }
def CurveSameUptoCardSaid : Prop := Claim7.holds Tryd.pinned (.plain (OpenSpec.upto curveSameSpec)) curveSameUptoCard
end Rows
end Go.Proofs.YtjddngedifgneabDoor
