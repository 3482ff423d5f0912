/- What Canon answers: the least bytes. -/
import Derived.Test.YtjddngedifgneaaDoorApi
namespace Go.Proofs.YtjddngedifgneaaDoor
open Go.RowKit

set_option maxHeartbeats 2000000 in
theorem canon_any (a : Nat → Int) (ha : In 256 32 a) (w : World) (hg : Glob w) :
    Calls Tryd.prog 10 #[(.agg (row .u8 32 (a)).toArray)] w fun e w' => ∃ f : Nat → Int, e = .returned (.agg (row .u8 32 (f)).toArray) ∧ (In 256 32 f ∧ val 256 f 32 = val 256 a 32 % Q) ∧ Below w.heap.size w w' := by
  have a0 : Has ((w.alloc (.cells (row .u8 32 a).toArray 23)).alloc (.cells #[.int .u8 0, .int .u8 0, .int .u8 0, .int .u8 0, .int .u8 0, .int .u8 0, .int .u8 0, .int .u8 0, .int .u8 0, .int .u8 0, .int .u8 0, .int .u8 0, .int .u8 0, .int .u8 0, .int .u8 0, .int .u8 0, .int .u8 0, .int .u8 0, .int .u8 0, .int .u8 0, .int .u8 0, .int .u8 0, .int .u8 0, .int .u8 0, .int .u8 0, .int .u8 0, .int .u8 0, .int .u8 0, .int .u8 0, .int .u8 0, .int .u8 0, .int .u8 0] 23)) w.heap.size .u8 32 a := (Has.new w _ _ _ _ _ rfl).alloc _ (by simp)
  have z0 : Has ((w.alloc (.cells (row .u8 32 a).toArray 23)).alloc (.cells #[.int .u8 0, .int .u8 0, .int .u8 0, .int .u8 0, .int .u8 0, .int .u8 0, .int .u8 0, .int .u8 0, .int .u8 0, .int .u8 0, .int .u8 0, .int .u8 0, .int .u8 0, .int .u8 0, .int .u8 0, .int .u8 0, .int .u8 0, .int .u8 0, .int .u8 0, .int .u8 0, .int .u8 0, .int .u8 0, .int .u8 0, .int .u8 0, .int .u8 0, .int .u8 0, .int .u8 0, .int .u8 0, .int .u8 0, .int .u8 0, .int .u8 0, .int .u8 0] 23)) (w.heap.size + 1) .u8 32 (fun _ => 0) := key_zero _ _ _ (by simp)
  have g0 : Fr w 2 ((w.alloc (.cells (row .u8 32 a).toArray 23)).alloc (.cells #[.int .u8 0, .int .u8 0, .int .u8 0, .int .u8 0, .int .u8 0, .int .u8 0, .int .u8 0, .int .u8 0, .int .u8 0, .int .u8 0, .int .u8 0, .int .u8 0, .int .u8 0, .int .u8 0, .int .u8 0, .int .u8 0, .int .u8 0, .int .u8 0, .int .u8 0, .int .u8 0, .int .u8 0, .int .u8 0, .int .u8 0, .int .u8 0, .int .u8 0, .int .u8 0, .int .u8 0, .int .u8 0, .int .u8 0, .int .u8 0, .int .u8 0, .int .u8 0] 23)) := ((Fr.refl w).alloc _).alloc _
  go_enter Tryd.func10, Tryd.ntmps10
  go_wp2_with (refine wpList_load_mid rfl 23 _ rfl (w.heap.size) 0 rfl (row .u8 32 (a)) _ (Has.range (a0)) Tryd.underlying23 rfl (key_info _) ?_)
  refine (load_any a ha _).mono ?_
  rintro e w1 ⟨m, rfl, s1, l1⟩
  have g1 := g0.call l1
  have z1 := z0.call g0 l1 (by omega)
  go_wp2_with fail
  refine (save_any m s1.1 _ (hg.fr g1)).mono ?_
  rintro e w2 ⟨f, rfl, s2, l2⟩
  have z2 := z1.call g1 l2 (by omega)
  have hE : In 256 32 f ∧ val 256 f 32 = val 256 a 32 % Q := ⟨s2.1, by rw [s2.2, s1.2]⟩
  have HE := show Hid _ from hE
  clear hE s1 s2
  go_wp2_with (refine wpList_store_mid rfl 23 _ _ rfl (w.heap.size + 1) 0 (row .u8 32 (f)).toArray rfl rfl (key_there (z2)) (key_info' _) (all_oneCell_toArray (row_one _ _ _)) ?_)
  exact bodyPost_ret (v := (.agg (row .u8 32 (f)).toArray)) (results_row Tryd.results10 rfl (Has.all z2.there .u8 f).range Tryd.underlying23 rfl (key_info f)) rfl ⟨f, rfl, HE.out, ((g1.call l2).setAll _ (by omega) _).below⟩

end Go.Proofs.YtjddngedifgneaaDoor
