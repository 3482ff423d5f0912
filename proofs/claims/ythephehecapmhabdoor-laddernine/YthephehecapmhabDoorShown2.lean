/- The head of all statements of this layer: the document's examples hold. -/
import Derived.Test.YthephehecapmhabDoorEx
import Derived.Deep.Cut
namespace Go.Proofs.YthephehecapmhabDoor
open Go.RowKit

set_option maxRecDepth 10000 in
set_option maxHeartbeats 4000000 in
theorem shown_any  (w : World) (hg : Glob w) (ht : Trs w) :
    Calls Tryd.prog 5 #[] w fun e w' => e = .returned (.bool true) ∧ Below w.heap.size w w' := by
  have K := Kp.init w
  go_enter Tryd.func5, Tryd.ntmps5
  go_upto_region 1 with fail
  refine wp_region_list ?_
  refine callL rfl (fun _ => by kernel_rfl) (key_any txt1 rfl _) ?_
  rintro e w1 ⟨rfl, l⟩
  have K := K.call l
  clear l
  refine ⟨_, rfl, ?_⟩
  simp only [Act.put, List.setIfInBounds_toArray, List.set_cons_zero, List.set_cons_succ]
  refine callL rfl (fun _ => by kernel_rfl) (key_any txt2 rfl _) ?_
  rintro e w2 ⟨rfl, l⟩
  have K := K.call l
  clear l
  refine ⟨_, rfl, ?_⟩
  simp only [Act.put, List.setIfInBounds_toArray, List.set_cons_zero, List.set_cons_succ]
  refine callL rfl (fun _ => by kernel_rfl) (times_any (kfun txt1 64) (kfun txt2 64) (kfun_in _ _) (kfun_in _ _) _ (hg.below K.below hg.size) (ht.below K.below hg.size)) ?_
  rintro e w3 ⟨f1, rfl, s1, l⟩
  have K := K.call l
  clear l
  refine ⟨_, rfl, ?_⟩
  simp only [Act.put, List.setIfInBounds_toArray, List.set_cons_zero, List.set_cons_succ]
  refine allocL #[.int .u8 0, .int .u8 0, .int .u8 0, .int .u8 0, .int .u8 0, .int .u8 0, .int .u8 0, .int .u8 0, .int .u8 0, .int .u8 0, .int .u8 0, .int .u8 0, .int .u8 0, .int .u8 0, .int .u8 0, .int .u8 0, .int .u8 0, .int .u8 0, .int .u8 0, .int .u8 0, .int .u8 0, .int .u8 0, .int .u8 0, .int .u8 0, .int .u8 0, .int .u8 0, .int .u8 0, .int .u8 0, .int .u8 0, .int .u8 0, .int .u8 0, .int .u8 0] 23 rfl (fun _ => by kernel_rfl) ?_
  simp only [Act.put, List.setIfInBounds_toArray, List.set_cons_zero, List.set_cons_succ]
  refine storesL .u8 32 (f1) (w3.heap.size) 23 _ _ rfl rfl rfl rfl (key_there (key_zero _ _ _ rfl)) (key_info' _) ?_
  have K := K.fresh (f1) #[.int .u8 0, .int .u8 0, .int .u8 0, .int .u8 0, .int .u8 0, .int .u8 0, .int .u8 0, .int .u8 0, .int .u8 0, .int .u8 0, .int .u8 0, .int .u8 0, .int .u8 0, .int .u8 0, .int .u8 0, .int .u8 0, .int .u8 0, .int .u8 0, .int .u8 0, .int .u8 0, .int .u8 0, .int .u8 0, .int .u8 0, .int .u8 0, .int .u8 0, .int .u8 0, .int .u8 0, .int .u8 0, .int .u8 0, .int .u8 0, .int .u8 0, .int .u8 0] 23 (key_zero _ _ _ rfl)
  simp only [Act.put]
  show Exit.then _ _ _ _ _
  go_upto_region 2 with fail
  refine wp_region_list ?_
  refine pureL (.agg (row .u8 32 (one 1)).toArray) rfl (fun _ => by kernel_rfl) ?_
  simp only [Act.put, List.setIfInBounds_toArray, List.set_cons_zero, List.set_cons_succ]
  refine pureL (.agg (row .u8 32 (one 0)).toArray) rfl (fun _ => by kernel_rfl) ?_
  simp only [Act.put, List.setIfInBounds_toArray, List.set_cons_zero, List.set_cons_succ]
  refine callL rfl (fun _ => by kernel_rfl) (shared_any (one 1) (one 0) (byte_in' 1 (by decide) (by decide)) (byte_in' 0 (by decide) (by decide)) _ (hg.below K.below hg.size) (ht.below K.below hg.size)) ?_
  rintro e w4 ⟨f2, rfl, s2, l⟩
  have K := K.call l
  clear l
  refine ⟨_, rfl, ?_⟩
  simp only [Act.put, List.setIfInBounds_toArray, List.set_cons_zero, List.set_cons_succ]
  simp only [if_pos (tm_at0 (one 1))]
  refine pureL (.tuple #[(.agg (row .u8 32 (f2)).toArray), .int .i64 20]) rfl (fun _ => by kernel_rfl) ?_
  simp only [Act.put, List.setIfInBounds_toArray, List.set_cons_zero, List.set_cons_succ]
  refine pureL ((.agg (row .u8 32 (f2)).toArray)) rfl (fun _ => by kernel_rfl) ?_
  simp only [Act.put, List.setIfInBounds_toArray, List.set_cons_zero, List.set_cons_succ]
  refine pureL (.int .i64 20) rfl (fun _ => by kernel_rfl) ?_
  simp only [Act.put, List.setIfInBounds_toArray, List.set_cons_zero, List.set_cons_succ]
  refine allocL #[.int .u8 0, .int .u8 0, .int .u8 0, .int .u8 0, .int .u8 0, .int .u8 0, .int .u8 0, .int .u8 0, .int .u8 0, .int .u8 0, .int .u8 0, .int .u8 0, .int .u8 0, .int .u8 0, .int .u8 0, .int .u8 0, .int .u8 0, .int .u8 0, .int .u8 0, .int .u8 0, .int .u8 0, .int .u8 0, .int .u8 0, .int .u8 0, .int .u8 0, .int .u8 0, .int .u8 0, .int .u8 0, .int .u8 0, .int .u8 0, .int .u8 0, .int .u8 0] 23 rfl (fun _ => by kernel_rfl) ?_
  simp only [Act.put, List.setIfInBounds_toArray, List.set_cons_zero, List.set_cons_succ]
  refine storesL .u8 32 (f2) (w4.heap.size) 23 _ _ rfl rfl rfl rfl (key_there (key_zero _ _ _ rfl)) (key_info' _) ?_
  have K := K.fresh (f2) #[.int .u8 0, .int .u8 0, .int .u8 0, .int .u8 0, .int .u8 0, .int .u8 0, .int .u8 0, .int .u8 0, .int .u8 0, .int .u8 0, .int .u8 0, .int .u8 0, .int .u8 0, .int .u8 0, .int .u8 0, .int .u8 0, .int .u8 0, .int .u8 0, .int .u8 0, .int .u8 0, .int .u8 0, .int .u8 0, .int .u8 0, .int .u8 0, .int .u8 0, .int .u8 0, .int .u8 0, .int .u8 0, .int .u8 0, .int .u8 0, .int .u8 0, .int .u8 0] 23 (key_zero _ _ _ rfl)
  simp only [Act.put]
  refine pureL (.int .i64 20) rfl (fun _ => by kernel_rfl) ?_
  simp only [Act.put, List.setIfInBounds_toArray, List.set_cons_zero, List.set_cons_succ]
  show Exit.then _ _ _ _ _
  go_upto_region 3 with fail
  refine wp_region_list ?_
  refine pureL (.agg (row .u8 32 (one 1)).toArray) rfl (fun _ => by kernel_rfl) ?_
  simp only [Act.put, List.setIfInBounds_toArray, List.set_cons_zero, List.set_cons_succ]
  refine pureL (.agg (row .u8 32 (one 1)).toArray) rfl (fun _ => by kernel_rfl) ?_
  simp only [Act.put, List.setIfInBounds_toArray, List.set_cons_zero, List.set_cons_succ]
  refine callL rfl (fun _ => by kernel_rfl) (shared_any (one 1) (one 1) (byte_in' 1 (by decide) (by decide)) (byte_in' 1 (by decide) (by decide)) _ (hg.below K.below hg.size) (ht.below K.below hg.size)) ?_
  rintro e w5 ⟨f3, rfl, s3, l⟩
  have K := K.call l
  clear l
  refine ⟨_, rfl, ?_⟩
  simp only [Act.put, List.setIfInBounds_toArray, List.set_cons_zero, List.set_cons_succ]
  simp only [if_pos (tm_at1 (one 1))]
  refine pureL (.tuple #[(.agg (row .u8 32 (f3)).toArray), .int .i64 20]) rfl (fun _ => by kernel_rfl) ?_
  simp only [Act.put, List.setIfInBounds_toArray, List.set_cons_zero, List.set_cons_succ]
  refine pureL ((.agg (row .u8 32 (f3)).toArray)) rfl (fun _ => by kernel_rfl) ?_
  simp only [Act.put, List.setIfInBounds_toArray, List.set_cons_zero, List.set_cons_succ]
  refine pureL (.int .i64 20) rfl (fun _ => by kernel_rfl) ?_
  simp only [Act.put, List.setIfInBounds_toArray, List.set_cons_zero, List.set_cons_succ]
  refine allocL #[.int .u8 0, .int .u8 0, .int .u8 0, .int .u8 0, .int .u8 0, .int .u8 0, .int .u8 0, .int .u8 0, .int .u8 0, .int .u8 0, .int .u8 0, .int .u8 0, .int .u8 0, .int .u8 0, .int .u8 0, .int .u8 0, .int .u8 0, .int .u8 0, .int .u8 0, .int .u8 0, .int .u8 0, .int .u8 0, .int .u8 0, .int .u8 0, .int .u8 0, .int .u8 0, .int .u8 0, .int .u8 0, .int .u8 0, .int .u8 0, .int .u8 0, .int .u8 0] 23 rfl (fun _ => by kernel_rfl) ?_
  simp only [Act.put, List.setIfInBounds_toArray, List.set_cons_zero, List.set_cons_succ]
  refine storesL .u8 32 (f3) (w5.heap.size) 23 _ _ rfl rfl rfl rfl (key_there (key_zero _ _ _ rfl)) (key_info' _) ?_
  have K := K.fresh (f3) #[.int .u8 0, .int .u8 0, .int .u8 0, .int .u8 0, .int .u8 0, .int .u8 0, .int .u8 0, .int .u8 0, .int .u8 0, .int .u8 0, .int .u8 0, .int .u8 0, .int .u8 0, .int .u8 0, .int .u8 0, .int .u8 0, .int .u8 0, .int .u8 0, .int .u8 0, .int .u8 0, .int .u8 0, .int .u8 0, .int .u8 0, .int .u8 0, .int .u8 0, .int .u8 0, .int .u8 0, .int .u8 0, .int .u8 0, .int .u8 0, .int .u8 0, .int .u8 0] 23 (key_zero _ _ _ rfl)
  simp only [Act.put]
  refine pureL (.int .i64 20) rfl (fun _ => by kernel_rfl) ?_
  simp only [Act.put, List.setIfInBounds_toArray, List.set_cons_zero, List.set_cons_succ]
  show Exit.then _ _ _ _ _
  go_upto_region 4 with fail
  refine wp_region_held_drew (S := fun w' => Kp w ([(w5.heap.size, f3), (w4.heap.size, f2), (w3.heap.size, f1)]) w') (by kernel_rfl) K.drew ?_
  intro K
  refine rowH (i := 0) (some 21) rfl .u8 32 (f1) (w3.heap.size) 23 _ _ rfl rfl rfl rfl (by kernel_rfl) (by kernel_rfl) (by kernel_rfl) (fun _ _ _ h => h) Tryd.underlying23 rfl (key_info _) K (fun _ h => h.get _ _ (List.mem_cons_of_mem _ (List.mem_cons_of_mem _ List.mem_cons_self))) ?_
  simp only [Act.put, List.setIfInBounds_toArray, List.set_cons_zero, List.set_cons_succ]
  refine callH (i := 1) (some 22) rfl (by kernel_rfl) rfl rfl (fun _ => by kernel_rfl) (key_any txt3 rfl _) ?_
  rintro e w6 ⟨rfl, l⟩
  have K := K.call l
  clear l
  refine ⟨_, rfl, K, ?_⟩
  simp only [Act.put, List.setIfInBounds_toArray, List.set_cons_zero, List.set_cons_succ]
  refine pureH (i := 2) (some 23) rfl (.bool true) rfl rfl (fun w => eqlV 32 (f1) (kfun txt3 64) 23 5 _ _ _ rfl rfl rfl Tryd.underlying23 Tryd.underlying5 (fun _ => by kernel_rfl) (by kernel_rfl) (s1.1) (kfun_in _ _) true (decide_eq_true (by rw [s1.2]; exact ex_tm)) w) (by kernel_rfl) (by kernel_rfl) (by kernel_rfl) (fun _ _ _ h => h) K ?_
  simp only [Act.put, List.setIfInBounds_toArray, List.set_cons_zero, List.set_cons_succ]
  refine pureH (i := 3) (some 24) rfl (.bool true) rfl rfl (fun _ => by kernel_rfl) (by kernel_rfl) (by kernel_rfl) (by kernel_rfl) (fun _ _ _ h => h) K ?_
  simp only [Act.put, List.setIfInBounds_toArray, List.set_cons_zero, List.set_cons_succ]
  refine pureH (i := 4) (some 25) rfl (.int .i64 20) rfl rfl (fun _ => by kernel_rfl) (by kernel_rfl) (by kernel_rfl) (by kernel_rfl) (fun _ _ _ h => h) K ?_
  simp only [Act.put, List.setIfInBounds_toArray, List.set_cons_zero, List.set_cons_succ]
  refine pureH (i := 5) (some 26) rfl (.bool true) rfl rfl (fun _ => by kernel_rfl) (by kernel_rfl) (by kernel_rfl) (by kernel_rfl) (fun _ _ _ h => h) K ?_
  simp only [Act.put, List.setIfInBounds_toArray, List.set_cons_zero, List.set_cons_succ]
  refine pureH (i := 6) (some 27) rfl (.bool true) rfl rfl (fun _ => by kernel_rfl) (by kernel_rfl) (by kernel_rfl) (by kernel_rfl) (fun _ _ _ h => h) K ?_
  simp only [Act.put, List.setIfInBounds_toArray, List.set_cons_zero, List.set_cons_succ]
  refine pureH (i := 7) (some 28) rfl (.bool true) rfl rfl (fun _ => by kernel_rfl) (by kernel_rfl) (by kernel_rfl) (by kernel_rfl) (fun _ _ _ h => h) K ?_
  simp only [Act.put, List.setIfInBounds_toArray, List.set_cons_zero, List.set_cons_succ]
  refine pureH (i := 8) (some 29) rfl (.int .i64 20) rfl rfl (fun _ => by kernel_rfl) (by kernel_rfl) (by kernel_rfl) (by kernel_rfl) (fun _ _ _ h => h) K ?_
  simp only [Act.put, List.setIfInBounds_toArray, List.set_cons_zero, List.set_cons_succ]
  refine pureH (i := 9) (some 30) rfl (.bool true) rfl rfl (fun _ => by kernel_rfl) (by kernel_rfl) (by kernel_rfl) (by kernel_rfl) (fun _ _ _ h => h) K ?_
  simp only [Act.put, List.setIfInBounds_toArray, List.set_cons_zero, List.set_cons_succ]
  refine pureH (i := 10) (some 31) rfl (.bool true) rfl rfl (fun _ => by kernel_rfl) (by kernel_rfl) (by kernel_rfl) (by kernel_rfl) (fun _ _ _ h => h) K ?_
  simp only [Act.put, List.setIfInBounds_toArray, List.set_cons_zero, List.set_cons_succ]
  refine pureH (i := 11) (some 0) rfl (.bool true) rfl rfl (fun _ => by kernel_rfl) (by kernel_rfl) (by kernel_rfl) (by kernel_rfl) (fun _ _ _ h => h) K ?_
  simp only [Act.put]
  refine wpAnyH_done (by kernel_rfl) ?_ _
  go_wp2
  go_ret
  exact ⟨rfl, K.below⟩

end Go.Proofs.YthephehecapmhabDoor
