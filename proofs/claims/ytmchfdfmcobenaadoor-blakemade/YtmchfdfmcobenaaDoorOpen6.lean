/- How the arguments of stage 6's statements and the three tables are opened and read again. -/
import Derived.Test.YtmchfdfmcobenaaDoorRows
import Derived.Test.YtmchfdfmcobenaaDoorBg
import Derived.Test.YtmchfdfmcobenaaDoorTb
namespace Go.Proofs.YtmchfdfmcobenaaDoor
open Go.ChangeShapes Go.WideShapes Go.ChangeAt Go.WideMaps Go.WideElems Go.RowKit

theorem own : ownKnob Tryd.prog.godebug = none := by kernel_rfl
theorem gFirst6 : Tryd.prog.globalNamed "sheave/blake.iv" = some 0 := by kernel_rfl
theorem gOrders6 : Tryd.prog.globalNamed "sheave/blake.rows" = some 2 := by kernel_rfl
theorem gPlaces6 : Tryd.prog.globalNamed "sheave/blake.places" = some 1 := by kernel_rfl
theorem tFirst6 : (Tryd.prog.globals[0]?).map (·.type) = some 37 := by kernel_rfl
theorem tOrders6 : (Tryd.prog.globals[2]?).map (·.type) = some 59 := by kernel_rfl
theorem tPlaces6 : (Tryd.prog.globals[1]?).map (·.type) = some 61 := by kernel_rfl
theorem cellsByte : Tryd.prog.cellsOf 5 = 1 := by kernel_rfl
theorem cellsW32 : Tryd.prog.cellsOf 36 = 1 := by kernel_rfl
theorem cellsSt : Tryd.prog.cellsOf 37 = 8 := by kernel_rfl
theorem cells16i : Tryd.prog.cellsOf 58 = 16 := by kernel_rfl
theorem cells4i : Tryd.prog.cellsOf 60 = 4 := by kernel_rfl

/-- What the cards' rows list. -/
def laidB {H : Type} : List (String × DataW H) := [("sheave/blake.iv", Rows.laid_sheave_blake_iv), ("sheave/blake.rows", Rows.laid_sheave_blake_rows), ("sheave/blake.places", Rows.laid_sheave_blake_places)]

theorem glob_of_laidB {W : World} (h : laidMetH Tryd.prog laidB W) : BGlob W := by
  rw [MakeChecks.laidMetH_plain _ _ _ (by kernel_rfl)] at h
  obtain ⟨ps, ⟨g0, t0, cs0, f0, p0, q0, hg0, ht0, hv0, hd0, ⟨g1, t1, cs1, f1, p1, q1, hg1, ht1, hv1, hd1, ⟨g2, t2, cs2, f2, p2, q2, hg2, ht2, hv2, hd2, _, _⟩, _⟩, _⟩, _, _⟩ := h
  obtain rfl := Option.some.inj (gFirst6.symm.trans hg0)
  obtain rfl := Option.some.inj (gOrders6.symm.trans hg1)
  obtain rfl := Option.some.inj (gPlaces6.symm.trans hg2)
  obtain rfl := Option.some.inj (tFirst6.symm.trans ht0)
  obtain rfl := Option.some.inj (tOrders6.symm.trans ht1)
  obtain rfl := Option.some.inj (tPlaces6.symm.trans ht2)
  obtain ⟨f, _, e1, e2⟩ := open_row Tryd.underlying37 Tryd.underlying36 cellsSt cellsW32 hd0
  simp only [Prod.mk.injEq] at e2
  have ef := litR_inj (show (litR .u32 8 iv : DataW _) = litR .u32 8 f from e2.1)
  have b := open_table (n := 10) (m := 16) Tryd.underlying59 Tryd.underlying58 Tryd.underlying5 cells16i cellsByte (by decide) (fun j => ((sgL.getD j 0 : Nat) : Int)) (by rfl) hd1
  have c := open_table (n := 8) (m := 4) Tryd.underlying61 Tryd.underlying60 Tryd.underlying5 cells4i cellsByte (by decide) bplc (by rfl) hd2
  have c0 : ∀ j, j < 8 → W.cell? ⟨0, j, none⟩ = some (.int .u32 (iv j)) := fun j hj => by
    rw [World.var?_cell hg0 hv0 j, ef j hj]
    have := row_get .u32 8 f j hj
    rw [← e1] at this
    simpa using this
  have c1 : ∀ j, j < 160 → W.cell? ⟨2, j, none⟩ = some (.int .u8 (sgL.getD j 0 : Nat)) := fun j hj => by
    rw [World.var?_cell hg1 hv1 j]; simpa using b j hj
  have c2 : ∀ j, j < 32 → W.cell? ⟨1, j, none⟩ = some (.int .u8 (bplc j)) := fun j hj => by
    rw [World.var?_cell hg2 hv2 j]; simpa using c j hj
  have s0 := World.block_lt_of_cell? W _ (c0 0 (by omega))
  have s1 := World.block_lt_of_cell? W _ (c1 0 (by omega))
  have s2 := World.block_lt_of_cell? W _ (c2 0 (by omega))
  exact ⟨c0, c1, c2, by dsimp only at s0 s1 s2; omega⟩

/-- The door's own heap meets the condition: three closed facts. -/
theorem door_metB (os : Os) (args : Array Value) : laidMetH Tryd.prog laidB ((World.doorLaid Tryd.prog 37 os).forCall (fun _ _ => 0) ⟨#[], args, []⟩).memory :=
  laidMetH_of_parts3 (fuel := 8) (laidMet_of_run' 8 (by kernel_rfl) (by kernel_rfl)) (by kernel_rfl) (by kernel_rfl)
end Go.Proofs.YtmchfdfmcobenaaDoor
