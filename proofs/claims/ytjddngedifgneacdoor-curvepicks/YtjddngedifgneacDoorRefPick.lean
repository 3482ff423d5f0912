/- What the document's own Pick answers. -/
import Derived.Test.YtjddngedifgneacDoorPick
namespace Go.Proofs.YtjddngedifgneacDoor
open Go.RowKit

set_option maxRecDepth 10000 in
set_option maxHeartbeats 2000000 in
theorem refPick_any (bit : Int) (hbit : 0 ≤ bit ∧ bit < 256) (a b : Nat → Int) (w : World) :
    Calls Tryd.prog 10 #[.int .u8 bit, (.agg (row .u8 32 (a)).toArray), (.agg (row .u8 32 (b)).toArray)] w fun e w' => e = .returned (.agg (row .u8 32 (sel bit a b)).toArray) ∧ Below w.heap.size w w' := by
  have a0 : Has (((w.alloc (.cells (row .u8 32 a).toArray 23)).alloc (.cells (row .u8 32 b).toArray 23)).alloc (.cells #[.int .u8 0, .int .u8 0, .int .u8 0, .int .u8 0, .int .u8 0, .int .u8 0, .int .u8 0, .int .u8 0, .int .u8 0, .int .u8 0, .int .u8 0, .int .u8 0, .int .u8 0, .int .u8 0, .int .u8 0, .int .u8 0, .int .u8 0, .int .u8 0, .int .u8 0, .int .u8 0, .int .u8 0, .int .u8 0, .int .u8 0, .int .u8 0, .int .u8 0, .int .u8 0, .int .u8 0, .int .u8 0, .int .u8 0, .int .u8 0, .int .u8 0, .int .u8 0] 23)) w.heap.size .u8 32 a := ((Has.new w _ _ _ _ _ rfl).alloc _ (by simp)).alloc _ (by simp; omega)
  have b0 : Has (((w.alloc (.cells (row .u8 32 a).toArray 23)).alloc (.cells (row .u8 32 b).toArray 23)).alloc (.cells #[.int .u8 0, .int .u8 0, .int .u8 0, .int .u8 0, .int .u8 0, .int .u8 0, .int .u8 0, .int .u8 0, .int .u8 0, .int .u8 0, .int .u8 0, .int .u8 0, .int .u8 0, .int .u8 0, .int .u8 0, .int .u8 0, .int .u8 0, .int .u8 0, .int .u8 0, .int .u8 0, .int .u8 0, .int .u8 0, .int .u8 0, .int .u8 0, .int .u8 0, .int .u8 0, .int .u8 0, .int .u8 0, .int .u8 0, .int .u8 0, .int .u8 0, .int .u8 0] 23)) (w.heap.size + 1) .u8 32 b := (Has.new _ _ _ _ _ _ (by simp)).alloc _ (by simp)
  have z0 : Has (((w.alloc (.cells (row .u8 32 a).toArray 23)).alloc (.cells (row .u8 32 b).toArray 23)).alloc (.cells #[.int .u8 0, .int .u8 0, .int .u8 0, .int .u8 0, .int .u8 0, .int .u8 0, .int .u8 0, .int .u8 0, .int .u8 0, .int .u8 0, .int .u8 0, .int .u8 0, .int .u8 0, .int .u8 0, .int .u8 0, .int .u8 0, .int .u8 0, .int .u8 0, .int .u8 0, .int .u8 0, .int .u8 0, .int .u8 0, .int .u8 0, .int .u8 0, .int .u8 0, .int .u8 0, .int .u8 0, .int .u8 0, .int .u8 0, .int .u8 0, .int .u8 0, .int .u8 0] 23)) (w.heap.size + 1 + 1) .u8 32 (fun _ => 0) := key_zero _ _ _ (by simp)
  have g0 : Fr w 3 (((w.alloc (.cells (row .u8 32 a).toArray 23)).alloc (.cells (row .u8 32 b).toArray 23)).alloc (.cells #[.int .u8 0, .int .u8 0, .int .u8 0, .int .u8 0, .int .u8 0, .int .u8 0, .int .u8 0, .int .u8 0, .int .u8 0, .int .u8 0, .int .u8 0, .int .u8 0, .int .u8 0, .int .u8 0, .int .u8 0, .int .u8 0, .int .u8 0, .int .u8 0, .int .u8 0, .int .u8 0, .int .u8 0, .int .u8 0, .int .u8 0, .int .u8 0, .int .u8 0, .int .u8 0, .int .u8 0, .int .u8 0, .int .u8 0, .int .u8 0, .int .u8 0, .int .u8 0] 23)) := (((Fr.refl w).alloc _).alloc _).alloc _
  obtain ⟨hb0, hb1⟩ := hbit
  by_cases hc : bit % 2 = 0
  · have hs : sel bit a b = a := by unfold sel; rw [if_neg (by omega)]
    have he : (bit % 2 == 0) = true := by simp [hc]
    rw [hs]
    clear hs hc
    go_enter Tryd.func10, Tryd.ntmps10
    go_wp2_with (first | (refine wpList_load_mid rfl 23 _ rfl (w.heap.size) 0 rfl (row .u8 32 (a)) _ (Has.range (a0)) Tryd.underlying23 rfl (key_info _) ?_) | (refine wpList_store_mid rfl 23 _ _ rfl (w.heap.size + 1 + 1) 0 (row .u8 32 (a)).toArray rfl rfl (key_there (z0)) (key_info' _) (all_oneCell_toArray (row_one _ _ _)) ?_))
    exact bodyPost_ret (v := (.agg (row .u8 32 (a)).toArray)) (results_row Tryd.results10 rfl (Has.all z0.there .u8 a).range Tryd.underlying23 rfl (key_info a)) rfl ⟨rfl, (g0.setAll _ (by omega) _).below⟩
  · have hs : sel bit a b = b := by unfold sel; rw [if_pos (by omega)]
    have he : (bit % 2 == 0) = false := by simp; omega
    rw [hs]
    clear hs hc
    go_enter Tryd.func10, Tryd.ntmps10
    go_wp2_with (first | (refine wpList_load_mid rfl 23 _ rfl (w.heap.size + 1) 0 rfl (row .u8 32 (b)) _ (Has.range (b0)) Tryd.underlying23 rfl (key_info _) ?_) | (refine wpList_store_mid rfl 23 _ _ rfl (w.heap.size + 1 + 1) 0 (row .u8 32 (b)).toArray rfl rfl (key_there (z0)) (key_info' _) (all_oneCell_toArray (row_one _ _ _)) ?_))
    exact bodyPost_ret (v := (.agg (row .u8 32 (b)).toArray)) (results_row Tryd.results10 rfl (Has.all z0.there .u8 b).range Tryd.underlying23 rfl (key_info b)) rfl ⟨rfl, (g0.setAll _ (by omega) _).below⟩
end Go.Proofs.YtjddngedifgneacDoor
