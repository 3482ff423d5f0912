/- How the arguments of stage 5's statements and the two tables are opened and read again. -/
import Derived.Test.YtnphoennagmiaaaDoorRows
import Derived.Test.YtnphoennagmiaaaDoorCt
import Derived.Test.YtnphoennagmiaaaDoorOpn
namespace Go.Proofs.YtnphoennagmiaaaDoor
open Go.ChangeShapes Go.WideShapes Go.ChangeAt Go.WideMaps Go.WideElems Go.RowKit

theorem own : ownKnob Tryd.prog.godebug = none := by kernel_rfl
theorem gKept : Tryd.prog.globalNamed "sheave/clamp.kept" = some 0 := by kernel_rfl
theorem gModulus : Tryd.prog.globalNamed "sheave/clamp.modulus" = some 1 := by kernel_rfl
theorem tKept : (Tryd.prog.globals[0]?).map (·.type) = some 27 := by kernel_rfl
theorem tModulus : (Tryd.prog.globals[1]?).map (·.type) = some 49 := by kernel_rfl
theorem cellsKey : Tryd.prog.cellsOf 23 = 32 := by kernel_rfl
theorem cellsTag : Tryd.prog.cellsOf 27 = 16 := by kernel_rfl
theorem cellsByte : Tryd.prog.cellsOf 5 = 1 := by kernel_rfl
theorem cellsNum : Tryd.prog.cellsOf 49 = 3 := by kernel_rfl
theorem cellsWord : Tryd.prog.cellsOf 47 = 1 := by kernel_rfl

/-- What the cards' rows list. -/
def laidTwo {H : Type} : List (String × DataW H) := [("sheave/clamp.kept", Rows.laid_sheave_clamp_kept), ("sheave/clamp.modulus", Rows.laid_sheave_clamp_modulus)]

theorem glob_of_laid {W : World} (h : laidMetH Tryd.prog laidTwo W) : Glob W := by
  rw [MakeChecks.laidMetH_plain _ _ _ (by kernel_rfl)] at h
  obtain ⟨ps, ⟨g0, t0, cs0, f0, p0, q0, hg0, ht0, hv0, hd0, ⟨g1, t1, cs1, f1, p1, q1, hg1, ht1, hv1, hd1, _, _⟩, _⟩, _, _⟩ := h
  obtain rfl := Option.some.inj (gKept.symm.trans hg0)
  obtain rfl := Option.some.inj (gModulus.symm.trans hg1)
  obtain rfl := Option.some.inj (tKept.symm.trans ht0)
  obtain rfl := Option.some.inj (tModulus.symm.trans ht1)
  obtain ⟨f, _, e1, e2⟩ := open_row Tryd.underlying27 Tryd.underlying5 cellsTag cellsByte hd0
  simp only [Prod.mk.injEq] at e2
  have ef := litR_inj (show (litR .u8 16 keptB : DataW _) = litR .u8 16 f from e2.1)
  obtain ⟨g, _, e3, e4⟩ := open_row Tryd.underlying49 Tryd.underlying47 cellsNum cellsWord hd1
  simp only [Prod.mk.injEq] at e4
  have eg := litR_inj (show (litR .u64 3 qW : DataW _) = litR .u64 3 g from e4.1)
  have c0 : ∀ j, j < 16 → W.cell? ⟨0, j, none⟩ = some (.int .u8 (keptB j)) := fun j hj => by
    rw [World.var?_cell hg0 hv0 j, ef j hj]
    have := row_get .u8 16 f j hj
    rw [← e1] at this
    simpa using this
  have c1 : ∀ j, j < 3 → W.cell? ⟨1, j, none⟩ = some (.int .u64 (qW j)) := fun j hj => by
    rw [World.var?_cell hg1 hv1 j, eg j hj]
    have := row_get .u64 3 g j hj
    rw [← e3] at this
    simpa using this
  have s0 := World.block_lt_of_cell? W _ (c0 0 (by omega))
  have s1 := World.block_lt_of_cell? W _ (c1 0 (by omega))
  exact ⟨c1, c0, by dsimp only at s0 s1; omega⟩

/-- The door's own heap meets the condition: three closed facts. -/
theorem door_met (os : Os) (args : Array Value) : laidMetH Tryd.prog laidTwo ((World.doorLaid Tryd.prog 19 os).forCall (fun _ _ => 0) ⟨#[], args, []⟩).memory :=
  laidMetH_of_parts3 (fuel := 8) (laidMet_of_run' 8 (by kernel_rfl) (by kernel_rfl)) (by kernel_rfl) (by kernel_rfl)

/-- Noughts, for the one start that is shown to fit. -/
def keyNought : Value := .agg #[.int .u8 0, .int .u8 0, .int .u8 0, .int .u8 0, .int .u8 0, .int .u8 0, .int .u8 0, .int .u8 0, .int .u8 0, .int .u8 0, .int .u8 0, .int .u8 0, .int .u8 0, .int .u8 0, .int .u8 0, .int .u8 0, .int .u8 0, .int .u8 0, .int .u8 0, .int .u8 0, .int .u8 0, .int .u8 0, .int .u8 0, .int .u8 0, .int .u8 0, .int .u8 0, .int .u8 0, .int .u8 0, .int .u8 0, .int .u8 0, .int .u8 0, .int .u8 0]
def tagNought : Value := .agg #[.int .u8 0, .int .u8 0, .int .u8 0, .int .u8 0, .int .u8 0, .int .u8 0, .int .u8 0, .int .u8 0, .int .u8 0, .int .u8 0, .int .u8 0, .int .u8 0, .int .u8 0, .int .u8 0, .int .u8 0, .int .u8 0]
end Go.Proofs.YtnphoennagmiaaaDoor
