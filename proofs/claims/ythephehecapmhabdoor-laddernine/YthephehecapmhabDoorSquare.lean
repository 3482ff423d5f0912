/- What Square answers. -/
import Derived.Test.YthephehecapmhabDoorApi
namespace Go.Proofs.YthephehecapmhabDoor
open Go.RowKit

set_option maxHeartbeats 2000000 in
theorem square_any (a : Nat → Int) (ha : In 256 32 a) (w : World) (hg : Glob w) :
    Calls Tryd.prog 22 #[(.agg (row .u8 32 (a)).toArray)] w fun e w' => ∃ f : Nat → Int, e = .returned (.agg (row .u8 32 (f)).toArray) ∧ (In 256 32 f ∧ val 256 f 32 = (val 256 a 32 * val 256 a 32) % Q) ∧ Below w.heap.size w w' := by
  have a0 : Has ((w.alloc (.cells (row .u8 32 a).toArray 23)).alloc (.cells #[.int .u8 0, .int .u8 0, .int .u8 0, .int .u8 0, .int .u8 0, .int .u8 0, .int .u8 0, .int .u8 0, .int .u8 0, .int .u8 0, .int .u8 0, .int .u8 0, .int .u8 0, .int .u8 0, .int .u8 0, .int .u8 0, .int .u8 0, .int .u8 0, .int .u8 0, .int .u8 0, .int .u8 0, .int .u8 0, .int .u8 0, .int .u8 0, .int .u8 0, .int .u8 0, .int .u8 0, .int .u8 0, .int .u8 0, .int .u8 0, .int .u8 0, .int .u8 0] 23)) w.heap.size .u8 32 a := (Has.new w _ _ _ _ _ rfl).alloc _ (by simp)
  have z0 : Has ((w.alloc (.cells (row .u8 32 a).toArray 23)).alloc (.cells #[.int .u8 0, .int .u8 0, .int .u8 0, .int .u8 0, .int .u8 0, .int .u8 0, .int .u8 0, .int .u8 0, .int .u8 0, .int .u8 0, .int .u8 0, .int .u8 0, .int .u8 0, .int .u8 0, .int .u8 0, .int .u8 0, .int .u8 0, .int .u8 0, .int .u8 0, .int .u8 0, .int .u8 0, .int .u8 0, .int .u8 0, .int .u8 0, .int .u8 0, .int .u8 0, .int .u8 0, .int .u8 0, .int .u8 0, .int .u8 0, .int .u8 0, .int .u8 0] 23)) (w.heap.size + 1) .u8 32 (fun _ => 0) := key_zero _ _ _ (by simp)
  have g0 : Fr w 2 ((w.alloc (.cells (row .u8 32 a).toArray 23)).alloc (.cells #[.int .u8 0, .int .u8 0, .int .u8 0, .int .u8 0, .int .u8 0, .int .u8 0, .int .u8 0, .int .u8 0, .int .u8 0, .int .u8 0, .int .u8 0, .int .u8 0, .int .u8 0, .int .u8 0, .int .u8 0, .int .u8 0, .int .u8 0, .int .u8 0, .int .u8 0, .int .u8 0, .int .u8 0, .int .u8 0, .int .u8 0, .int .u8 0, .int .u8 0, .int .u8 0, .int .u8 0, .int .u8 0, .int .u8 0, .int .u8 0, .int .u8 0, .int .u8 0] 23)) := ((Fr.refl w).alloc _).alloc _
  go_enter Tryd.func22, Tryd.ntmps22
  go_wp2_with (refine wpList_load_mid rfl 23 _ rfl (w.heap.size) 0 rfl (row .u8 32 (a)) _ (Has.range (a0)) Tryd.underlying23 rfl (key_info _) ?_)
  refine (load_any a ha _).mono ?_
  rintro e w1 ⟨m, rfl, s1, l1⟩
  have g1 := g0.call l1
  have hN := g1.size
  have z1 := z0.call g0 l1 (by omega)
  have n0 := has_zero w1 46 w1.heap.size rfl
  have n1 := Has.all n0.there .u64 m
  have g2 := (g1.alloc (.cells #[.int .u64 0, .int .u64 0, .int .u64 0, .int .u64 0] 46)).setAll w1.heap.size (by omega) (row .u64 4 m)
  have z2 := (z1.alloc (.cells #[.int .u64 0, .int .u64 0, .int .u64 0, .int .u64 0] 46) (by omega)).setAll_other w1.heap.size (by omega) 0 (row .u64 4 m)
  have i1 := s1.1
  have H1 := show Hid _ from s1
  clear s1 a0 z0 g0 l1
  go_wp2_with (first | (refine wpList_store_mid rfl 46 _ _ rfl (w1.heap.size) 0 (row .u64 4 (m)).toArray rfl rfl (num_there (n0)) (num_info' _) (all_oneCell_toArray (row_one _ _ _)) ?_) | (refine wpList_load_mid rfl 46 _ rfl (w1.heap.size) 0 rfl (row .u64 4 (m)) _ (Has.range (n1)) Tryd.underlying46 rfl (num_info _) ?_))
  refine (product_any m m i1 i1 _).mono ?_
  rintro e w2 ⟨m2, rfl, s2, l2⟩
  have g3 := g2.call l2
  have z3 := z2.call g2 l2 (by omega)
  have i2 := s2.1
  have H2 := show Hid _ from s2
  clear s2
  go_wp2_with fail
  refine (save_any m2 i2 _ (hg.fr g3)).mono ?_
  rintro e w3 ⟨f, rfl, s3, l3⟩
  have z4 := z3.call g3 l3 (by omega)
  have hE : In 256 32 f ∧ val 256 f 32 = (val 256 a 32 * val 256 a 32) % Q := ⟨s3.1, by rw [s3.2, H2.out.2, H1.out.2]⟩
  have HE := show Hid _ from hE
  clear hE s3
  go_wp2_with (refine wpList_store_mid rfl 23 _ _ rfl (w.heap.size + 1) 0 (row .u8 32 (f)).toArray rfl rfl (key_there (z4)) (key_info' _) (all_oneCell_toArray (row_one _ _ _)) ?_)
  exact bodyPost_ret (v := (.agg (row .u8 32 (f)).toArray)) (results_row Tryd.results22 rfl (Has.all z4.there .u8 f).range Tryd.underlying23 rfl (key_info f)) rfl ⟨f, rfl, HE.out, ((g3.call l3).setAll _ (by omega) _).below⟩

end Go.Proofs.YthephehecapmhabDoor
