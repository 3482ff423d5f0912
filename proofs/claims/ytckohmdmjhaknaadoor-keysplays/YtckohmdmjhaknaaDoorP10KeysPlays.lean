/- Texts of Tb Door15, joined. -/
import Derived.Test.YtckohmdmjhaknaaDoorP1KeysPlays
import Derived.Test.YtckohmdmjhaknaaDoorP9KeysPlays
import Derived.Test.YtckohmdmjhaknaaDoorP6KeysPlays
import Derived.LaidMore
import Derived.OpenShut
set_option maxRecDepth 20000
set_option maxHeartbeats 64000000
namespace Go.Proofs.YtckohmdmjhaknaaDoor
open Go.RowKit
section
open Go.ChangeShapes Go.WideShapes Go.ChangeAt Go.WideMaps Go.WideElems Go.RowKit
theorem open_table {H : Type} {enc : TypeId × Value → H} {P : Program} {w : World} {base : Nat} {sp : Nat → Bool} {held : Bool} {fuel : Nat} {cs : List Value} {q : List MemPlace} {d : DataW H} {t r e : TypeId} {k : IntKind} {n m : Nat} (hu : P.underlying t = some (.array n r)) (hr : P.underlying r = some (.array m e)) (he : P.underlying e = some (.int k)) (cr : P.cellsOf r = m) (ce : P.cellsOf e = 1) (hm : 0 < m)
    (g : Nat → Int) (hd : d = .agg ((List.range n).map fun i => litR k m (fun j => g (m * i + j)))) (h : DataW.trod enc P w base sp held fuel t cs = some (d, q)) : ∀ j, j < n * m → cs[j]? = some (.int k (g j)) := by
  obtain ⟨xs, _, _, hx, _, hn, hel⟩ := DataW.trod_array hu h
  intro j hj
  have hi : j / m < n := (Nat.div_lt_iff_lt_mul hm).2 hj
  have hjm : j % m < m := Nat.mod_lt _ hm
  have hdm : j / m * m + j % m = j := Nat.div_add_mod' j m
  have e1 := hel (j / m) hi
  rw [cr] at e1
  have hxi : j / m < xs.length := by rw [hn]; exact hi
  rw [List.getElem?_eq_getElem hxi] at e1
  obtain ⟨f, _, e2, e3⟩ := open_row hr he cr ce e1
  simp only [Prod.mk.injEq] at hx
  rw [hd] at hx
  have hx1 : ((List.range n).map fun i => (litR k m (fun j => g (m * i + j)) : DataW H)) = xs.map (·.1) := by
    have := hx.1
    injection this
  have e6 : (xs.map (·.1))[j / m]? = some (litR k m f) := by rw [List.getElem?_map, List.getElem?_eq_getElem hxi, e3]; rfl
  rw [← hx1, List.getElem?_map, List.getElem?_range hi] at e6
  simp only [Option.map_some, Option.some.injEq] at e6
  have e7 := litR_inj e6 (j % m) hjm
  have e8 : ((cs.drop (j / m * m)).take m)[j % m]? = some (.int k (f (j % m))) := by rw [e2]; exact row_get _ _ _ _ hjm
  rw [List.getElem?_take, if_pos hjm, List.getElem?_drop, hdm] at e8
  rw [e8, ← e7, Nat.mul_comm m, hdm]
end
section
open Go.ChangeShapes Go.WideShapes Go.ChangeAt Go.WideMaps Go.WideElems Go.RowKit
theorem cDK0 : Tryd.prog.cellsOf 61 = 8 := by kernel_rfl
theorem cDK1 : Tryd.prog.cellsOf 60 = 1 := by kernel_rfl
theorem cDK3 : Tryd.prog.cellsOf 5 = 1 := by kernel_rfl
theorem cDK4 : Tryd.prog.cellsOf 78 = 16 := by kernel_rfl
theorem cDK6 : Tryd.prog.cellsOf 80 = 4 := by kernel_rfl
theorem gDK0 : Tryd.prog.globalNamed "sheave/blake.iv" = some 0 := by kernel_rfl
theorem tDK0 : (Tryd.prog.globals[0]?).map (·.type) = some 61 := by kernel_rfl
theorem gDK1 : Tryd.prog.globalNamed "sheave/blake.rows" = some 2 := by kernel_rfl
theorem tDK1 : (Tryd.prog.globals[2]?).map (·.type) = some 79 := by kernel_rfl
theorem gDK2 : Tryd.prog.globalNamed "sheave/blake.places" = some 1 := by kernel_rfl
theorem tDK2 : (Tryd.prog.globals[1]?).map (·.type) = some 81 := by kernel_rfl
def laidK {H : Type} : List (String × DataW H) := [("sheave/blake.iv", Rows.laid_sheave_blake_iv), ("sheave/blake.rows", Rows.laid_sheave_blake_rows), ("sheave/blake.places", Rows.laid_sheave_blake_places)]
theorem glob_of_laidK {W : World} (h : laidMetH Tryd.prog laidK W) : BGlob W := by
  rw [MakeChecks.laidMetH_plain _ _ _ (by kernel_rfl)] at h
  obtain ⟨ps, ⟨g0, t0, cs0, f0, p0, q0, hg0, ht0, hv0, hd0, ⟨g1, t1, cs1, f1, p1, q1, hg1, ht1, hv1, hd1, ⟨g2, t2, cs2, f2, p2, q2, hg2, ht2, hv2, hd2, _, _⟩, _⟩, _⟩, _, _⟩ := h
  obtain rfl := Option.some.inj (gDK0.symm.trans hg0)
  obtain rfl := Option.some.inj (tDK0.symm.trans ht0)
  obtain rfl := Option.some.inj (gDK1.symm.trans hg1)
  obtain rfl := Option.some.inj (tDK1.symm.trans ht1)
  obtain rfl := Option.some.inj (gDK2.symm.trans hg2)
  obtain rfl := Option.some.inj (tDK2.symm.trans ht2)
  obtain ⟨F0, _, eA0, eB0⟩ := open_row Tryd.underlying61 Tryd.underlying60 cDK0 cDK1 hd0
  simp only [Prod.mk.injEq] at eB0
  have eF0 := litR_inj (show (litR .u32 8 iv : DataW _) = litR .u32 8 F0 from eB0.1)
  have c_blake_iv : ∀ j, j < 8 → W.cell? ⟨0, j, none⟩ = some (.int .u32 (iv j)) := fun j hj => by
    rw [World.var?_cell hg0 hv0 j, eF0 j hj]
    have := row_get .u32 8 F0 j hj
    rw [← eA0] at this
    simpa using this
  have s0 := World.block_lt_of_cell? W _ (c_blake_iv 0 (by decide))
  have b1 := open_table (n := 10) (m := 16) Tryd.underlying79 Tryd.underlying78 Tryd.underlying5 cDK4 cDK3 (by decide) (fun j => ((sgL.getD j 0 : Nat) : Int)) (by rfl) hd1
  have c_blake_rows : ∀ j, j < 160 → W.cell? ⟨2, j, none⟩ = some (.int .u8 ((fun j => ((sgL.getD j 0 : Nat) : Int)) j)) := fun j hj => by
    rw [World.var?_cell hg1 hv1 j]; simpa using b1 j hj
  have s1 := World.block_lt_of_cell? W _ (c_blake_rows 0 (by decide))
  have b2 := open_table (n := 8) (m := 4) Tryd.underlying81 Tryd.underlying80 Tryd.underlying5 cDK6 cDK3 (by decide) bplc (by rfl) hd2
  have c_blake_places : ∀ j, j < 32 → W.cell? ⟨1, j, none⟩ = some (.int .u8 (bplc j)) := fun j hj => by
    rw [World.var?_cell hg2 hv2 j]; simpa using b2 j hj
  have s2 := World.block_lt_of_cell? W _ (c_blake_places 0 (by decide))
  have hsz : 3 ≤ W.heap.size := by dsimp only at s0 s1 s2; omega
  exact ⟨c_blake_iv, c_blake_rows, c_blake_places, hsz⟩
theorem door_metK0 (os : Os) (args : Array Value) : laidMet Tryd.prog laidK ((World.doorLaid Tryd.prog 37 os).forCall (fun _ _ => 0) ⟨#[], args, []⟩).memory := laidMet_of_run' 8 (by kernel_rfl) (by kernel_rfl)
theorem door_metK (os : Os) (args : Array Value) : laidMetH Tryd.prog laidK ((World.doorLaid Tryd.prog 37 os).forCall (fun _ _ => 0) ⟨#[], args, []⟩).memory :=
  laidMetH_of_parts3 (fuel := 8) (door_metK0 os args) (by kernel_rfl) (by kernel_rfl)
end
end Go.Proofs.YtckohmdmjhaknaaDoor
