/- What the document's own Canon answers. -/
import Derived.Test.YthephehecapmhabDoorRefC
import Derived.Test.YthephehecapmhabDoorApi
namespace Go.Proofs.YthephehecapmhabDoor
open Go.RowKit

theorem dig_bound (a : Nat → Int) (ha : In 256 32 a) : ∀ j, j < 32 → 0 ≤ dig a j ∧ dig a j ≤ 1099511627776 := fun j _ => by have := dig_in a ha j; omega

set_option maxHeartbeats 2000000 in
theorem refCanon_any (a : Nat → Int) (ha : In 256 32 a) (w : World) :
    Calls Tryd.prog 8 #[(.agg (row .u8 32 (a)).toArray)] w fun e w' => ∃ f : Nat → Int, e = .returned (.agg (row .u8 32 (f)).toArray) ∧ (In 256 32 f ∧ val 256 f 32 = val 256 a 32 % Q) ∧ Below w.heap.size w w' := by
  have a0 : Has ((w.alloc (.cells (row .u8 32 a).toArray 23)).alloc (.cells #[.int .u8 0, .int .u8 0, .int .u8 0, .int .u8 0, .int .u8 0, .int .u8 0, .int .u8 0, .int .u8 0, .int .u8 0, .int .u8 0, .int .u8 0, .int .u8 0, .int .u8 0, .int .u8 0, .int .u8 0, .int .u8 0, .int .u8 0, .int .u8 0, .int .u8 0, .int .u8 0, .int .u8 0, .int .u8 0, .int .u8 0, .int .u8 0, .int .u8 0, .int .u8 0, .int .u8 0, .int .u8 0, .int .u8 0, .int .u8 0, .int .u8 0, .int .u8 0] 23)) w.heap.size .u8 32 a := (Has.new w _ _ _ _ _ rfl).alloc _ (by simp)
  have z0 : Has ((w.alloc (.cells (row .u8 32 a).toArray 23)).alloc (.cells #[.int .u8 0, .int .u8 0, .int .u8 0, .int .u8 0, .int .u8 0, .int .u8 0, .int .u8 0, .int .u8 0, .int .u8 0, .int .u8 0, .int .u8 0, .int .u8 0, .int .u8 0, .int .u8 0, .int .u8 0, .int .u8 0, .int .u8 0, .int .u8 0, .int .u8 0, .int .u8 0, .int .u8 0, .int .u8 0, .int .u8 0, .int .u8 0, .int .u8 0, .int .u8 0, .int .u8 0, .int .u8 0, .int .u8 0, .int .u8 0, .int .u8 0, .int .u8 0] 23)) (w.heap.size + 1) .u8 32 (fun _ => 0) := key_zero _ _ _ (by simp)
  have g0 : Fr w 2 ((w.alloc (.cells (row .u8 32 a).toArray 23)).alloc (.cells #[.int .u8 0, .int .u8 0, .int .u8 0, .int .u8 0, .int .u8 0, .int .u8 0, .int .u8 0, .int .u8 0, .int .u8 0, .int .u8 0, .int .u8 0, .int .u8 0, .int .u8 0, .int .u8 0, .int .u8 0, .int .u8 0, .int .u8 0, .int .u8 0, .int .u8 0, .int .u8 0, .int .u8 0, .int .u8 0, .int .u8 0, .int .u8 0, .int .u8 0, .int .u8 0, .int .u8 0, .int .u8 0, .int .u8 0, .int .u8 0, .int .u8 0, .int .u8 0] 23)) := ((Fr.refl w).alloc _).alloc _
  go_enter Tryd.func8, Tryd.ntmps8
  go_wp2_with (refine wpList_load_mid rfl 23 _ rfl (w.heap.size) 0 rfl (row .u8 32 (a)) _ (Has.range (a0)) Tryd.underlying23 rfl (key_info _) ?_)
  refine (digits_any a ha _).mono ?_
  rintro e w1 ⟨B, rfl, hB, l1⟩
  have g1 := g0.call l1
  have z1 := z0.call g0 l1 (by omega)
  have hlo : w.heap.size + 2 ≤ B := by have := hB.1; simp at this; omega
  go_wp2_with fail
  refine (reduce_any (dig a) B _ (dig_bound a ha) hB.2.1 hB.2.2).mono ?_
  rintro e w2 ⟨f, rfl, s2, l2⟩
  have z2 := z1.below l2 (by omega)
  have hE : In 256 32 f ∧ val 256 f 32 = val 256 a 32 % Q := ⟨s2.1, by rw [s2.2, val_dig32]⟩
  have HE := show Hid _ from hE
  have hL := below_setAll (g1.below.trans (l2.mono (by omega))) (w.heap.size + 1) (by omega) 0 (row .u8 32 f)
  clear hE s2 hB
  go_wp2_with (refine wpList_store_mid rfl 23 _ _ rfl (w.heap.size + 1) 0 (row .u8 32 (f)).toArray rfl rfl (key_there (z2)) (key_info' _) (all_oneCell_toArray (row_one _ _ _)) ?_)
  exact bodyPost_ret (v := (.agg (row .u8 32 (f)).toArray)) (results_row Tryd.results8 rfl (Has.all z2.there .u8 f).range Tryd.underlying23 rfl (key_info f)) rfl ⟨f, rfl, HE.out, hL⟩
end Go.Proofs.YthephehecapmhabDoor
