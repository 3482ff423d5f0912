/- What the statement's function answers, whatever the bytes: true. -/
import Derived.Test.YthephehecapmhaaDoorShown2
import Derived.Test.YthephehecapmhaaDoorRefTrim
import Derived.Deep.Cut
namespace Go.Proofs.YthephehecapmhaaDoor
open Go.RowKit

set_option maxRecDepth 10000 in
set_option maxHeartbeats 4000000 in
theorem law_LadderTrims (k : Nat → Int) (hk : In 256 32 k) (w : World) (hg : Glob w) (ht : Trs w) :
    Calls Tryd.prog 3 #[(.agg (row .u8 32 (k)).toArray)] w fun e w' => e = .returned (.bool true) ∧ Below w.heap.size w w' := by
  have K := Kp.init w
  have K := K.box k 23 (w.heap.size) rfl
  go_enter Tryd.func3, Tryd.ntmps3
  go_upto_region 1 with fail
  refine wp_region_list ?_
  refine callL rfl (fun _ => by kernel_rfl) (shown_any _ (hg.below K.below hg.size) (ht.below K.below hg.size)) ?_
  rintro e w1 ⟨rfl, l⟩
  have K := K.call l
  clear l
  refine ⟨_, rfl, ?_⟩
  simp only [Act.put, List.setIfInBounds_toArray, List.set_cons_zero, List.set_cons_succ]
  refine pureL (.bool true) rfl (fun _ => by kernel_rfl) ?_
  simp only [Act.put, List.setIfInBounds_toArray, List.set_cons_zero, List.set_cons_succ]
  show Exit.then _ _ _ _ _
  go_upto_region 2 with fail
  refine wp_region_list ?_
  refine rowL .u8 32 (k) (w.heap.size) 23 _ _ rfl rfl rfl Tryd.underlying23 rfl (key_info _) (K.get _ _ List.mem_cons_self) ?_
  simp only [Act.put, List.setIfInBounds_toArray, List.set_cons_zero, List.set_cons_succ]
  refine callL rfl (fun _ => by kernel_rfl) (trim_any (k) (hk) _ (ht.below K.below hg.size) (Nat.le_trans hg.size K.below.size)) ?_
  rintro e w2 ⟨rfl, l⟩
  have K := K.call l
  clear l
  refine ⟨_, rfl, ?_⟩
  simp only [Act.put, List.setIfInBounds_toArray, List.set_cons_zero, List.set_cons_succ]
  refine allocL #[.int .u8 0, .int .u8 0, .int .u8 0, .int .u8 0, .int .u8 0, .int .u8 0, .int .u8 0, .int .u8 0, .int .u8 0, .int .u8 0, .int .u8 0, .int .u8 0, .int .u8 0, .int .u8 0, .int .u8 0, .int .u8 0, .int .u8 0, .int .u8 0, .int .u8 0, .int .u8 0, .int .u8 0, .int .u8 0, .int .u8 0, .int .u8 0, .int .u8 0, .int .u8 0, .int .u8 0, .int .u8 0, .int .u8 0, .int .u8 0, .int .u8 0, .int .u8 0] 23 rfl (fun _ => by kernel_rfl) ?_
  simp only [Act.put, List.setIfInBounds_toArray, List.set_cons_zero, List.set_cons_succ]
  refine storesL .u8 32 (trim (k)) (w2.heap.size) 23 _ _ rfl rfl rfl rfl (key_there (key_zero _ _ _ rfl)) (key_info' _) ?_
  have K := K.fresh (trim (k)) #[.int .u8 0, .int .u8 0, .int .u8 0, .int .u8 0, .int .u8 0, .int .u8 0, .int .u8 0, .int .u8 0, .int .u8 0, .int .u8 0, .int .u8 0, .int .u8 0, .int .u8 0, .int .u8 0, .int .u8 0, .int .u8 0, .int .u8 0, .int .u8 0, .int .u8 0, .int .u8 0, .int .u8 0, .int .u8 0, .int .u8 0, .int .u8 0, .int .u8 0, .int .u8 0, .int .u8 0, .int .u8 0, .int .u8 0, .int .u8 0, .int .u8 0, .int .u8 0] 23 (key_zero _ _ _ rfl)
  simp only [Act.put]
  show Exit.then _ _ _ _ _
  go_upto_region 3 with fail
  refine wp_region_held_drew (S := fun w' => Kp w ([(w2.heap.size, trim (k)), (w.heap.size, k)]) w') (by kernel_rfl) K.drew ?_
  intro K
  refine pureH (i := 0) (some 8) rfl (.bool true) rfl rfl (fun _ => by kernel_rfl) (by kernel_rfl) (by kernel_rfl) (by kernel_rfl) (fun _ _ _ h => h) K ?_
  simp only [Act.put, List.setIfInBounds_toArray, List.set_cons_zero, List.set_cons_succ]
  refine pureH (i := 1) (some 9) rfl (.bool true) rfl rfl (fun _ => by kernel_rfl) (by kernel_rfl) (by kernel_rfl) (by kernel_rfl) (fun _ _ _ h => h) K ?_
  simp only [Act.put, List.setIfInBounds_toArray, List.set_cons_zero, List.set_cons_succ]
  refine rowH (i := 2) (some 10) rfl .u8 32 (trim (k)) (w2.heap.size) 23 _ _ rfl rfl rfl rfl (by kernel_rfl) (by kernel_rfl) (by kernel_rfl) (fun _ _ _ h => h) Tryd.underlying23 rfl (key_info _) K (fun _ h => h.get _ _ List.mem_cons_self) ?_
  simp only [Act.put, List.setIfInBounds_toArray, List.set_cons_zero, List.set_cons_succ]
  refine rowH (i := 3) (some 11) rfl .u8 32 (k) (w.heap.size) 23 _ _ rfl rfl rfl rfl (by kernel_rfl) (by kernel_rfl) (by kernel_rfl) (fun _ _ _ h => h) Tryd.underlying23 rfl (key_info _) K (fun _ h => h.get _ _ (List.mem_cons_of_mem _ List.mem_cons_self)) ?_
  simp only [Act.put, List.setIfInBounds_toArray, List.set_cons_zero, List.set_cons_succ]
  refine callH (i := 4) (some 12) rfl (by kernel_rfl) rfl rfl (fun _ => by kernel_rfl) (refTrim_any (k) (hk) _) ?_
  rintro e w3 ⟨rfl, l⟩
  have K := K.call l
  clear l
  refine ⟨_, rfl, K, ?_⟩
  simp only [Act.put, List.setIfInBounds_toArray, List.set_cons_zero, List.set_cons_succ]
  refine pureH (i := 5) (some 13) rfl (.bool true) rfl rfl (fun w => eqlV 32 (trim (k)) (trim (k)) 23 5 _ _ _ rfl rfl rfl Tryd.underlying23 Tryd.underlying5 (fun _ => by kernel_rfl) (by kernel_rfl) (trim_in _ (hk)) (trim_in _ (hk)) true (decide_eq_true rfl) w) (by kernel_rfl) (by kernel_rfl) (by kernel_rfl) (fun _ _ _ h => h) K ?_
  simp only [Act.put, List.setIfInBounds_toArray, List.set_cons_zero, List.set_cons_succ]
  refine pureH (i := 6) (some 14) rfl (.bool true) rfl rfl (fun _ => by kernel_rfl) (by kernel_rfl) (by kernel_rfl) (by kernel_rfl) (fun _ _ _ h => h) K ?_
  simp only [Act.put, List.setIfInBounds_toArray, List.set_cons_zero, List.set_cons_succ]
  refine pureH (i := 7) (some 15) rfl (.bool true) rfl rfl (fun _ => by kernel_rfl) (by kernel_rfl) (by kernel_rfl) (by kernel_rfl) (fun _ _ _ h => h) K ?_
  simp only [Act.put, List.setIfInBounds_toArray, List.set_cons_zero, List.set_cons_succ]
  refine rowH (i := 8) (some 16) rfl .u8 32 (trim (k)) (w2.heap.size) 23 _ _ rfl rfl rfl rfl (by kernel_rfl) (by kernel_rfl) (by kernel_rfl) (fun _ _ _ h => h) Tryd.underlying23 rfl (key_info _) K (fun _ h => h.get _ _ List.mem_cons_self) ?_
  simp only [Act.put, List.setIfInBounds_toArray, List.set_cons_zero, List.set_cons_succ]
  refine rowH (i := 10) (some 18) rfl .u8 32 (trim (k)) (w2.heap.size) 23 _ _ rfl rfl rfl rfl (by kernel_rfl) (by kernel_rfl) (by kernel_rfl) (fun _ _ _ h => h) Tryd.underlying23 rfl (key_info _) K (fun _ h => h.get _ _ List.mem_cons_self) ?_
  simp only [Act.put, List.setIfInBounds_toArray, List.set_cons_zero, List.set_cons_succ]
  refine callH (i := 9) (some 17) rfl (by kernel_rfl) rfl rfl (fun _ => by kernel_rfl) (trim_any (trim (k)) (trim_in _ (hk)) _ (ht.below K.below hg.size) (Nat.le_trans hg.size K.below.size)) ?_
  rintro e w4 ⟨rfl, l⟩
  have K := K.call l
  clear l
  refine ⟨_, rfl, K, ?_⟩
  simp only [Act.put, List.setIfInBounds_toArray, List.set_cons_zero, List.set_cons_succ]
  refine pureH (i := 11) (some 19) rfl (.bool true) rfl rfl (fun w => eqlV 32 (trim (trim (k))) (trim (k)) 23 5 _ _ _ rfl rfl rfl Tryd.underlying23 Tryd.underlying5 (fun _ => by kernel_rfl) (by kernel_rfl) (trim_in _ (trim_in _ (hk))) (trim_in _ (hk)) true (decide_eq_true (val_congr 256 32 (fun j _ => trim_trim k j))) w) (by kernel_rfl) (by kernel_rfl) (by kernel_rfl) (fun _ _ _ h => h) K ?_
  simp only [Act.put, List.setIfInBounds_toArray, List.set_cons_zero, List.set_cons_succ]
  refine pureH (i := 12) (some 20) rfl (.bool true) rfl rfl (fun _ => by kernel_rfl) (by kernel_rfl) (by kernel_rfl) (by kernel_rfl) (fun _ _ _ h => h) K ?_
  simp only [Act.put, List.setIfInBounds_toArray, List.set_cons_zero, List.set_cons_succ]
  refine pureH (i := 13) (some 2) rfl (.bool true) rfl rfl (fun _ => by kernel_rfl) (by kernel_rfl) (by kernel_rfl) (by kernel_rfl) (fun _ _ _ h => h) K ?_
  simp only [Act.put, List.setIfInBounds_toArray, List.set_cons_zero, List.set_cons_succ]
  refine wpAnyH_done (by kernel_rfl) ?_ _
  go_wp2
  go_ret
  exact ⟨rfl, K.below⟩

end Go.Proofs.YthephehecapmhaaDoor
