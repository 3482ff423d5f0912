/- Texts of Door12, joined. -/
import Derived.Test.YtgfpflcoknpbdaaGreatDoorP1SymmetricPlays
import Derived.Test.YtgfpflcoknpbdaaGreatDoorP27SymmetricPlays
import Derived.Test.YtgfpflcoknpbdaaGreatDoorP18SymmetricPlays
import Derived.LaidMore
import Derived.OpenShut
set_option maxRecDepth 20000
set_option maxHeartbeats 64000000
namespace Go.Proofs.YtgfpflcoknpbdaaGreatDoor
open Go.RowKit
section
open Go.ChangeShapes Go.WideShapes Go.ChangeAt Go.WideMaps Go.WideElems Go.RowKit
theorem cDS0 : Tryz.prog.cellsOf 68 = 8 := by kernel_rfl
theorem cDS1 : Tryz.prog.cellsOf 63 = 1 := by kernel_rfl
theorem cDS3 : Tryz.prog.cellsOf 5 = 1 := by kernel_rfl
theorem cDS4 : Tryz.prog.cellsOf 64 = 16 := by kernel_rfl
theorem cDS6 : Tryz.prog.cellsOf 109 = 4 := by kernel_rfl
theorem cDS7 : Tryz.prog.cellsOf 102 = 4 := by kernel_rfl
theorem cDS9 : Tryz.prog.cellsOf 3 = 1 := by kernel_rfl
theorem cDS10 : Tryz.prog.cellsOf 114 = 4 := by kernel_rfl
theorem cDS11 : Tryz.prog.cellsOf 65 = 16 := by kernel_rfl
theorem cDS12 : Tryz.prog.cellsOf 119 = 3 := by kernel_rfl
theorem cDS13 : Tryz.prog.cellsOf 46 = 1 := by kernel_rfl
theorem gDS0 : Tryz.prog.globalNamed "sheave/blake.iv" = some 0 := by kernel_rfl
theorem tDS0 : (Tryz.prog.globals[0]?).map (·.type) = some 68 := by kernel_rfl
theorem gDS1 : Tryz.prog.globalNamed "sheave/blake.rows" = some 2 := by kernel_rfl
theorem tDS1 : (Tryz.prog.globals[2]?).map (·.type) = some 108 := by kernel_rfl
theorem gDS2 : Tryz.prog.globalNamed "sheave/blake.places" = some 1 := by kernel_rfl
theorem tDS2 : (Tryz.prog.globals[1]?).map (·.type) = some 110 := by kernel_rfl
theorem gDS3 : Tryz.prog.globalNamed "sheave/chacha.first" = some 3 := by kernel_rfl
theorem tDS3 : (Tryz.prog.globals[3]?).map (·.type) = some 102 := by kernel_rfl
theorem gDS4 : Tryz.prog.globalNamed "sheave/chacha.places" = some 4 := by kernel_rfl
theorem tDS4 : (Tryz.prog.globals[4]?).map (·.type) = some 115 := by kernel_rfl
theorem gDS5 : Tryz.prog.globalNamed "sheave/clamp.kept" = some 5 := by kernel_rfl
theorem tDS5 : (Tryz.prog.globals[5]?).map (·.type) = some 65 := by kernel_rfl
theorem gDS6 : Tryz.prog.globalNamed "sheave/clamp.modulus" = some 6 := by kernel_rfl
theorem tDS6 : (Tryz.prog.globals[6]?).map (·.type) = some 119 := by kernel_rfl
def laidS {H : Type} : List (String × DataW H) := [("sheave/blake.iv", Rows.laid_sheave_blake_iv), ("sheave/blake.rows", Rows.laid_sheave_blake_rows), ("sheave/blake.places", Rows.laid_sheave_blake_places), ("sheave/chacha.first", Rows.laid_sheave_chacha_first), ("sheave/chacha.places", Rows.laid_sheave_chacha_places), ("sheave/clamp.kept", Rows.laid_sheave_clamp_kept), ("sheave/clamp.modulus", Rows.laid_sheave_clamp_modulus)]
theorem glob_of_laidS {W : World} (h : laidMetH Tryz.prog laidS W) : SGlob W := by
  rw [MakeChecks.laidMetH_plain _ _ _ (by kernel_rfl)] at h
  obtain ⟨ps, ⟨g0, t0, cs0, f0, p0, q0, hg0, ht0, hv0, hd0, ⟨g1, t1, cs1, f1, p1, q1, hg1, ht1, hv1, hd1, ⟨g2, t2, cs2, f2, p2, q2, hg2, ht2, hv2, hd2, ⟨g3, t3, cs3, f3, p3, q3, hg3, ht3, hv3, hd3, ⟨g4, t4, cs4, f4, p4, q4, hg4, ht4, hv4, hd4, ⟨g5, t5, cs5, f5, p5, q5, hg5, ht5, hv5, hd5, ⟨g6, t6, cs6, f6, p6, q6, hg6, ht6, hv6, hd6, _, _⟩, _⟩, _⟩, _⟩, _⟩, _⟩, _⟩, _, _⟩ := h
  obtain rfl := Option.some.inj (gDS0.symm.trans hg0)
  obtain rfl := Option.some.inj (tDS0.symm.trans ht0)
  obtain rfl := Option.some.inj (gDS1.symm.trans hg1)
  obtain rfl := Option.some.inj (tDS1.symm.trans ht1)
  obtain rfl := Option.some.inj (gDS2.symm.trans hg2)
  obtain rfl := Option.some.inj (tDS2.symm.trans ht2)
  obtain rfl := Option.some.inj (gDS3.symm.trans hg3)
  obtain rfl := Option.some.inj (tDS3.symm.trans ht3)
  obtain rfl := Option.some.inj (gDS4.symm.trans hg4)
  obtain rfl := Option.some.inj (tDS4.symm.trans ht4)
  obtain rfl := Option.some.inj (gDS5.symm.trans hg5)
  obtain rfl := Option.some.inj (tDS5.symm.trans ht5)
  obtain rfl := Option.some.inj (gDS6.symm.trans hg6)
  obtain rfl := Option.some.inj (tDS6.symm.trans ht6)
  obtain ⟨F0, _, eA0, eB0⟩ := open_row Tryz.underlying68 Tryz.underlying63 cDS0 cDS1 hd0
  simp only [Prod.mk.injEq] at eB0
  have eF0 := litR_inj (show (litR .u32 8 iv : DataW _) = litR .u32 8 F0 from eB0.1)
  have c_blake_iv : ∀ j, j < 8 → W.cell? ⟨0, j, none⟩ = some (.int .u32 (iv j)) := fun j hj => by
    rw [World.var?_cell hg0 hv0 j, eF0 j hj]
    have := row_get .u32 8 F0 j hj
    rw [← eA0] at this
    simpa using this
  have s0 := World.block_lt_of_cell? W _ (c_blake_iv 0 (by decide))
  have b1 := open_table (n := 10) (m := 16) Tryz.underlying108 Tryz.underlying64 Tryz.underlying5 cDS4 cDS3 (by decide) (fun j => ((sgL.getD j 0 : Nat) : Int)) (by rfl) hd1
  have c_blake_rows : ∀ j, j < 160 → W.cell? ⟨2, j, none⟩ = some (.int .u8 ((fun j => ((sgL.getD j 0 : Nat) : Int)) j)) := fun j hj => by
    rw [World.var?_cell hg1 hv1 j]; simpa using b1 j hj
  have s1 := World.block_lt_of_cell? W _ (c_blake_rows 0 (by decide))
  have b2 := open_table (n := 8) (m := 4) Tryz.underlying110 Tryz.underlying109 Tryz.underlying5 cDS6 cDS3 (by decide) bplc (by rfl) hd2
  have c_blake_places : ∀ j, j < 32 → W.cell? ⟨1, j, none⟩ = some (.int .u8 (bplc j)) := fun j hj => by
    rw [World.var?_cell hg2 hv2 j]; simpa using b2 j hj
  have s2 := World.block_lt_of_cell? W _ (c_blake_places 0 (by decide))
  obtain ⟨F3, _, eA3, eB3⟩ := open_row Tryz.underlying102 Tryz.underlying63 cDS7 cDS1 hd3
  simp only [Prod.mk.injEq] at eB3
  have eF3 := litR_inj (show (litR .u32 4 hfst : DataW _) = litR .u32 4 F3 from eB3.1)
  have c_chacha_first : ∀ j, j < 4 → W.cell? ⟨3, j, none⟩ = some (.int .u32 (hfst j)) := fun j hj => by
    rw [World.var?_cell hg3 hv3 j, eF3 j hj]
    have := row_get .u32 4 F3 j hj
    rw [← eA3] at this
    simpa using this
  have s3 := World.block_lt_of_cell? W _ (c_chacha_first 0 (by decide))
  have b4 := open_table (n := 8) (m := 4) Tryz.underlying115 Tryz.underlying114 Tryz.underlying3 cDS10 cDS9 (by decide) plc (by rfl) hd4
  have c_chacha_places : ∀ j, j < 32 → W.cell? ⟨4, j, none⟩ = some (.int .i64 (plc j)) := fun j hj => by
    rw [World.var?_cell hg4 hv4 j]; simpa using b4 j hj
  have s4 := World.block_lt_of_cell? W _ (c_chacha_places 0 (by decide))
  obtain ⟨F5, _, eA5, eB5⟩ := open_row Tryz.underlying65 Tryz.underlying5 cDS11 cDS3 hd5
  simp only [Prod.mk.injEq] at eB5
  have eF5 := litR_inj (show (litR .u8 16 keptB : DataW _) = litR .u8 16 F5 from eB5.1)
  have c_clamp_kept : ∀ j, j < 16 → W.cell? ⟨5, j, none⟩ = some (.int .u8 (keptB j)) := fun j hj => by
    rw [World.var?_cell hg5 hv5 j, eF5 j hj]
    have := row_get .u8 16 F5 j hj
    rw [← eA5] at this
    simpa using this
  have s5 := World.block_lt_of_cell? W _ (c_clamp_kept 0 (by decide))
  obtain ⟨F6, _, eA6, eB6⟩ := open_row Tryz.underlying119 Tryz.underlying46 cDS12 cDS13 hd6
  simp only [Prod.mk.injEq] at eB6
  have eF6 := litR_inj (show (litR .u64 3 qW : DataW _) = litR .u64 3 F6 from eB6.1)
  have c_clamp_modulus : ∀ j, j < 3 → W.cell? ⟨6, j, none⟩ = some (.int .u64 (qW j)) := fun j hj => by
    rw [World.var?_cell hg6 hv6 j, eF6 j hj]
    have := row_get .u64 3 F6 j hj
    rw [← eA6] at this
    simpa using this
  have s6 := World.block_lt_of_cell? W _ (c_clamp_modulus 0 (by decide))
  have hsz : 7 ≤ W.heap.size := by dsimp only at s0 s1 s2 s3 s4 s5 s6; omega
  exact ⟨⟨⟨c_chacha_first, c_chacha_places, hsz⟩, ⟨c_clamp_modulus, c_clamp_kept, hsz⟩⟩, ⟨c_blake_iv, c_blake_rows, c_blake_places, hsz⟩⟩
theorem door_metS0 (os : Os) (args : Array Value) : laidMet Tryz.prog laidS ((World.doorLaid Tryz.prog 100 os).forCall (fun _ _ => 0) ⟨#[], args, []⟩).memory := laidMet_of_run' 8 (by kernel_rfl) (by kernel_rfl)
end
end Go.Proofs.YtgfpflcoknpbdaaGreatDoor
