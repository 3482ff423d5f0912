/- Shapes of this layer's rows; what Quarter answers; the tables. -/
import Derived.Test.YtldebgblkaaojaaDoorHb
import Derived.Test.YtldebgblkaaojaaDoorKy
import Derived.Deep.Cut
import Derived.KernelRfl
namespace Go.Proofs.YtldebgblkaaojaaDoor
open Go.RowKit

theorem hq_info (f : Nat → Int) : (Tryd.prog.info? 23).map (·.size) = some (row .u32 4 f).length := by rw [row_length]; kernel_rfl
theorem hq_info' (f : Nat → Int) : (Tryd.prog.info? 23).map (·.size) = some (row .u32 4 f).toArray.size := by rw [List.size_toArray]; exact hq_info f
theorem hq_there {w : World} {b : Nat} {f g : Nat → Int} (h : Has w b .u32 4 f) : w.there b 0 (row .u32 4 g).toArray.size := by rw [List.size_toArray, row_length]; exact h.there
theorem hq_zero (w : World) (t : TypeId) (b : Nat) (hb : b = w.heap.size) : Has (w.alloc (.cells #[.int .u32 0, .int .u32 0, .int .u32 0, .int .u32 0] t)) b .u32 4 (fun _ => 0) := Has.new w .u32 4 (fun _ => 0) t b hb
theorem hs_info (f : Nat → Int) : (Tryd.prog.info? 47).map (·.size) = some (row .u32 16 f).length := by rw [row_length]; kernel_rfl
theorem hs_info' (f : Nat → Int) : (Tryd.prog.info? 47).map (·.size) = some (row .u32 16 f).toArray.size := by rw [List.size_toArray]; exact hs_info f
theorem hs_there {w : World} {b : Nat} {f g : Nat → Int} (h : Has w b .u32 16 f) : w.there b 0 (row .u32 16 g).toArray.size := by rw [List.size_toArray, row_length]; exact h.there
theorem hs_zero (w : World) (t : TypeId) (b : Nat) (hb : b = w.heap.size) : Has (w.alloc (.cells #[.int .u32 0, .int .u32 0, .int .u32 0, .int .u32 0, .int .u32 0, .int .u32 0, .int .u32 0, .int .u32 0, .int .u32 0, .int .u32 0, .int .u32 0, .int .u32 0, .int .u32 0, .int .u32 0, .int .u32 0, .int .u32 0] t)) b .u32 16 (fun _ => 0) := Has.new w .u32 16 (fun _ => 0) t b hb
theorem hn_info (f : Nat → Int) : (Tryd.prog.info? 30).map (·.size) = some (row .u8 12 f).length := by rw [row_length]; kernel_rfl
theorem hn_info' (f : Nat → Int) : (Tryd.prog.info? 30).map (·.size) = some (row .u8 12 f).toArray.size := by rw [List.size_toArray]; exact hn_info f
theorem hn_there {w : World} {b : Nat} {f g : Nat → Int} (h : Has w b .u8 12 f) : w.there b 0 (row .u8 12 g).toArray.size := by rw [List.size_toArray, row_length]; exact h.there
theorem hb_info (f : Nat → Int) : (Tryd.prog.info? 31).map (·.size) = some (row .u8 64 f).length := by rw [row_length]; kernel_rfl
theorem hb_info' (f : Nat → Int) : (Tryd.prog.info? 31).map (·.size) = some (row .u8 64 f).toArray.size := by rw [List.size_toArray]; exact hb_info f
theorem hb_there {w : World} {b : Nat} {f g : Nat → Int} (h : Has w b .u8 64 f) : w.there b 0 (row .u8 64 g).toArray.size := by rw [List.size_toArray, row_length]; exact h.there
theorem hb_zero (w : World) (t : TypeId) (b : Nat) (hb : b = w.heap.size) : Has (w.alloc (.cells #[.int .u8 0, .int .u8 0, .int .u8 0, .int .u8 0, .int .u8 0, .int .u8 0, .int .u8 0, .int .u8 0, .int .u8 0, .int .u8 0, .int .u8 0, .int .u8 0, .int .u8 0, .int .u8 0, .int .u8 0, .int .u8 0, .int .u8 0, .int .u8 0, .int .u8 0, .int .u8 0, .int .u8 0, .int .u8 0, .int .u8 0, .int .u8 0, .int .u8 0, .int .u8 0, .int .u8 0, .int .u8 0, .int .u8 0, .int .u8 0, .int .u8 0, .int .u8 0, .int .u8 0, .int .u8 0, .int .u8 0, .int .u8 0, .int .u8 0, .int .u8 0, .int .u8 0, .int .u8 0, .int .u8 0, .int .u8 0, .int .u8 0, .int .u8 0, .int .u8 0, .int .u8 0, .int .u8 0, .int .u8 0, .int .u8 0, .int .u8 0, .int .u8 0, .int .u8 0, .int .u8 0, .int .u8 0, .int .u8 0, .int .u8 0, .int .u8 0, .int .u8 0, .int .u8 0, .int .u8 0, .int .u8 0, .int .u8 0, .int .u8 0, .int .u8 0] t)) b .u8 64 (fun _ => 0) := Has.new w .u8 64 (fun _ => 0) t b hb

/-- The two tables. -/
def hfst : Nat → Int := quad 1634760805 857760878 2036477234 1797285236
def plc (j : Nat) : Int := if j % 4 = 0 then (pA (j / 4) : Int) else if j % 4 = 1 then (pB (j / 4) : Int) else if j % 4 = 2 then (pC (j / 4) : Int) else (pD (j / 4) : Int)
structure HGlob (w : World) : Prop where
  first : ∀ j, j < 4 → w.cell? ⟨0, j, none⟩ = some (.int .u32 (hfst j))
  place : ∀ j, j < 32 → w.cell? ⟨1, j, none⟩ = some (.int .i64 (plc j))
  size : 2 ≤ w.heap.size
theorem HGlob.below {w w' : World} (h : HGlob w) {B : Nat} (l : Below B w w') (hB : 2 ≤ B) : HGlob w' :=
  ⟨fun j hj => by rw [l.cell (p := ⟨0, j, none⟩) (Nat.lt_of_lt_of_le (show 0 < 2 by decide) hB)]; exact h.first j hj, fun j hj => by rw [l.cell (p := ⟨1, j, none⟩) (Nat.lt_of_lt_of_le (show 1 < 2 by decide) hB)]; exact h.place j hj, by have := h.size; have := l.size; omega⟩
theorem HGlob.fr {w w' : World} {k : Nat} (h : HGlob w) (g : Fr w k w') : HGlob w' := h.below g.below h.size

set_option maxHeartbeats 1000000 in
theorem hquarter_any (x : Nat → Int) (w : World) :
    Calls Tryd.prog 10 #[(.agg (row .u32 4 (x)).toArray)] w fun e w' => e = .returned (.agg (row .u32 4 (hqt x)).toArray) ∧ Below w.heap.size w w' := by
  have a0 : Has ((w.alloc (.cells (row .u32 4 x).toArray 23)).alloc (.cells #[.int .u32 0, .int .u32 0, .int .u32 0, .int .u32 0] 23)) w.heap.size .u32 4 x := (Has.new w _ _ _ _ _ rfl).alloc _ (by simp)
  have z0 : Has ((w.alloc (.cells (row .u32 4 x).toArray 23)).alloc (.cells #[.int .u32 0, .int .u32 0, .int .u32 0, .int .u32 0] 23)) (w.heap.size + 1) .u32 4 (fun _ => 0) := hq_zero _ _ _ (by simp)
  have g0 : Fr w 2 ((w.alloc (.cells (row .u32 4 x).toArray 23)).alloc (.cells #[.int .u32 0, .int .u32 0, .int .u32 0, .int .u32 0] 23)) := ((Fr.refl w).alloc _).alloc _
  have hB := (g0.setAll (w.heap.size + 1) (by omega) (row .u32 4 (hqt x))).below
  have c0 := a0.cell 0 (by omega)
  have c1 := a0.cell 1 (by omega)
  have c2 := a0.cell 2 (by omega)
  have c3 := a0.cell 3 (by omega)
  have ht := turn_any (x 0) (x 1) (x 2) (x 3)
  clear a0 g0
  go_enter Tryd.func10, Tryd.ntmps10
  go_upto_region 1 with fail
  generalize ((w.alloc (.cells (row .u32 4 x).toArray 23)).alloc (.cells #[.int .u32 0, .int .u32 0, .int .u32 0, .int .u32 0] 23)) = w1 at *
  go_wp2_with fail
  refine (ht _).mono ?_
  rintro e w2 ⟨rfl, rfl⟩
  clear ht
  go_wp2_with (refine wpList_store_mid rfl 23 _ _ rfl (w.heap.size + 1) 0 (row .u32 4 (hqt x)).toArray rfl rfl (hq_there (z0)) (hq_info' _) (all_oneCell_toArray (row_one _ _ _)) ?_)
  exact bodyPost_ret (v := (.agg (row .u32 4 (hqt x)).toArray)) (results_row Tryd.results10 rfl (Has.all z0.there .u32 _).range Tryd.underlying23 rfl (hq_info _)) rfl ⟨rfl, hB⟩
end Go.Proofs.YtldebgblkaaojaaDoor
