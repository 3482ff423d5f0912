/- What the statement's function answers, whatever the bytes: true. -/
import Derived.Test.YtjddngedifgneacDoorShown
import Derived.Test.YtjddngedifgneacDoorMath
import Derived.Test.YtjddngedifgneacDoorEqual
import Derived.Deep.Cut
namespace Go.Proofs.YtjddngedifgneacDoor
open Go.RowKit

set_option maxRecDepth 10000 in
set_option maxHeartbeats 4000000 in
theorem law_CurveStands_yes (a b : Nat → Int) (ha : In 256 32 a) (hb : In 256 32 b) (hz : val 256 a 32 % Q = val 256 b 32 % Q) (w : World) (hg : Glob w) :
    Calls Tryd.prog 7 #[(.agg (row .u8 32 (a)).toArray), (.agg (row .u8 32 (b)).toArray)] w fun e w' => e = .returned (.bool true) ∧ Below w.heap.size w w' := by
  have K := Kp.init w
  have K := K.box a 23 (w.heap.size) rfl
  have K := K.box b 23 (w.heap.size + 1) (by simp)
  go_enter Tryd.func7, Tryd.ntmps7
  go_upto_region 1 with fail
  refine wp_region_list ?_
  refine callL rfl (fun _ => by kernel_rfl) (shown_any _ (hg.below K.below hg.size)) ?_
  rintro e w1 ⟨rfl, l⟩
  have K := K.call l
  clear l
  refine ⟨_, rfl, ?_⟩
  simp only [Act.put, List.setIfInBounds_toArray, List.set_cons_zero, List.set_cons_succ]
  refine pureL (.bool true) rfl (fun _ => by kernel_rfl) ?_
  simp only [Act.put, List.setIfInBounds_toArray, List.set_cons_zero, List.set_cons_succ]
  show Exit.then _ _ _ _ _
  go_upto_region 2 with fail
  refine wp_region_list ?_
  refine rowL .u8 32 (a) (w.heap.size) 23 _ _ rfl rfl rfl Tryd.underlying23 rfl (key_info _) (K.get _ _ (List.mem_cons_of_mem _ List.mem_cons_self)) ?_
  simp only [Act.put, List.setIfInBounds_toArray, List.set_cons_zero, List.set_cons_succ]
  refine callL rfl (fun _ => by kernel_rfl) (canon_any (a) (ha) _ (hg.below K.below hg.size)) ?_
  rintro e w2 ⟨f1, rfl, s1, l⟩
  have K := K.call l
  clear l
  refine ⟨_, rfl, ?_⟩
  simp only [Act.put, List.setIfInBounds_toArray, List.set_cons_zero, List.set_cons_succ]
  refine allocL #[.int .u8 0, .int .u8 0, .int .u8 0, .int .u8 0, .int .u8 0, .int .u8 0, .int .u8 0, .int .u8 0, .int .u8 0, .int .u8 0, .int .u8 0, .int .u8 0, .int .u8 0, .int .u8 0, .int .u8 0, .int .u8 0, .int .u8 0, .int .u8 0, .int .u8 0, .int .u8 0, .int .u8 0, .int .u8 0, .int .u8 0, .int .u8 0, .int .u8 0, .int .u8 0, .int .u8 0, .int .u8 0, .int .u8 0, .int .u8 0, .int .u8 0, .int .u8 0] 23 rfl (fun _ => by kernel_rfl) ?_
  simp only [Act.put, List.setIfInBounds_toArray, List.set_cons_zero, List.set_cons_succ]
  refine storesL .u8 32 (f1) (w2.heap.size) 23 _ _ rfl rfl rfl rfl (key_there (key_zero _ _ _ rfl)) (key_info' _) ?_
  have K := K.fresh (f1) #[.int .u8 0, .int .u8 0, .int .u8 0, .int .u8 0, .int .u8 0, .int .u8 0, .int .u8 0, .int .u8 0, .int .u8 0, .int .u8 0, .int .u8 0, .int .u8 0, .int .u8 0, .int .u8 0, .int .u8 0, .int .u8 0, .int .u8 0, .int .u8 0, .int .u8 0, .int .u8 0, .int .u8 0, .int .u8 0, .int .u8 0, .int .u8 0, .int .u8 0, .int .u8 0, .int .u8 0, .int .u8 0, .int .u8 0, .int .u8 0, .int .u8 0, .int .u8 0] 23 (key_zero _ _ _ rfl)
  simp only [Act.put]
  show Exit.then _ _ _ _ _
  go_upto_region 3 with fail
  refine wp_region_list ?_
  refine rowL .u8 32 (b) (w.heap.size + 1) 23 _ _ rfl rfl rfl Tryd.underlying23 rfl (key_info _) (K.get _ _ (List.mem_cons_of_mem _ List.mem_cons_self)) ?_
  simp only [Act.put, List.setIfInBounds_toArray, List.set_cons_zero, List.set_cons_succ]
  refine callL rfl (fun _ => by kernel_rfl) (canon_any (b) (hb) _ (hg.below K.below hg.size)) ?_
  rintro e w3 ⟨f2, rfl, s2, l⟩
  have K := K.call l
  clear l
  refine ⟨_, rfl, ?_⟩
  simp only [Act.put, List.setIfInBounds_toArray, List.set_cons_zero, List.set_cons_succ]
  refine allocL #[.int .u8 0, .int .u8 0, .int .u8 0, .int .u8 0, .int .u8 0, .int .u8 0, .int .u8 0, .int .u8 0, .int .u8 0, .int .u8 0, .int .u8 0, .int .u8 0, .int .u8 0, .int .u8 0, .int .u8 0, .int .u8 0, .int .u8 0, .int .u8 0, .int .u8 0, .int .u8 0, .int .u8 0, .int .u8 0, .int .u8 0, .int .u8 0, .int .u8 0, .int .u8 0, .int .u8 0, .int .u8 0, .int .u8 0, .int .u8 0, .int .u8 0, .int .u8 0] 23 rfl (fun _ => by kernel_rfl) ?_
  simp only [Act.put, List.setIfInBounds_toArray, List.set_cons_zero, List.set_cons_succ]
  refine storesL .u8 32 (f2) (w3.heap.size) 23 _ _ rfl rfl rfl rfl (key_there (key_zero _ _ _ rfl)) (key_info' _) ?_
  have K := K.fresh (f2) #[.int .u8 0, .int .u8 0, .int .u8 0, .int .u8 0, .int .u8 0, .int .u8 0, .int .u8 0, .int .u8 0, .int .u8 0, .int .u8 0, .int .u8 0, .int .u8 0, .int .u8 0, .int .u8 0, .int .u8 0, .int .u8 0, .int .u8 0, .int .u8 0, .int .u8 0, .int .u8 0, .int .u8 0, .int .u8 0, .int .u8 0, .int .u8 0, .int .u8 0, .int .u8 0, .int .u8 0, .int .u8 0, .int .u8 0, .int .u8 0, .int .u8 0, .int .u8 0] 23 (key_zero _ _ _ rfl)
  simp only [Act.put]
  show Exit.then _ _ _ _ _
  go_upto_region 4 with fail
  refine wp_region_held_drew (S := fun w' => Kp w ([(w3.heap.size, f2), (w2.heap.size, f1), (w.heap.size + 1, b), (w.heap.size, a)]) w') (by kernel_rfl) K.drew ?_
  intro K
  refine pureH (i := 0) (some 13) rfl (.bool true) rfl rfl (fun _ => by kernel_rfl) (by kernel_rfl) (by kernel_rfl) (by kernel_rfl) (fun _ _ _ h => h) K ?_
  simp only [Act.put, List.setIfInBounds_toArray, List.set_cons_zero, List.set_cons_succ]
  refine pureH (i := 1) (some 14) rfl (.bool true) rfl rfl (fun _ => by kernel_rfl) (by kernel_rfl) (by kernel_rfl) (by kernel_rfl) (fun _ _ _ h => h) K ?_
  simp only [Act.put, List.setIfInBounds_toArray, List.set_cons_zero, List.set_cons_succ]
  refine rowH (i := 2) (some 15) rfl .u8 32 (a) (w.heap.size) 23 _ _ rfl rfl rfl rfl (by kernel_rfl) (by kernel_rfl) (by kernel_rfl) (fun _ _ _ h => h) Tryd.underlying23 rfl (key_info _) K (fun _ h => h.get _ _ (List.mem_cons_of_mem _ (List.mem_cons_of_mem _ (List.mem_cons_of_mem _ List.mem_cons_self)))) ?_
  simp only [Act.put, List.setIfInBounds_toArray, List.set_cons_zero, List.set_cons_succ]
  refine rowH (i := 3) (some 16) rfl .u8 32 (b) (w.heap.size + 1) 23 _ _ rfl rfl rfl rfl (by kernel_rfl) (by kernel_rfl) (by kernel_rfl) (fun _ _ _ h => h) Tryd.underlying23 rfl (key_info _) K (fun _ h => h.get _ _ (List.mem_cons_of_mem _ (List.mem_cons_of_mem _ List.mem_cons_self))) ?_
  simp only [Act.put, List.setIfInBounds_toArray, List.set_cons_zero, List.set_cons_succ]
  refine rowH (i := 5) (some 18) rfl .u8 32 (f1) (w2.heap.size) 23 _ _ rfl rfl rfl rfl (by kernel_rfl) (by kernel_rfl) (by kernel_rfl) (fun _ _ _ h => h) Tryd.underlying23 rfl (key_info _) K (fun _ h => h.get _ _ (List.mem_cons_of_mem _ List.mem_cons_self)) ?_
  simp only [Act.put, List.setIfInBounds_toArray, List.set_cons_zero, List.set_cons_succ]
  refine rowH (i := 6) (some 19) rfl .u8 32 (f2) (w3.heap.size) 23 _ _ rfl rfl rfl rfl (by kernel_rfl) (by kernel_rfl) (by kernel_rfl) (fun _ _ _ h => h) Tryd.underlying23 rfl (key_info _) K (fun _ h => h.get _ _ List.mem_cons_self) ?_
  simp only [Act.put, List.setIfInBounds_toArray, List.set_cons_zero, List.set_cons_succ]
  refine callH (i := 4) (some 17) rfl (by kernel_rfl) rfl rfl (fun _ => by kernel_rfl) (add_any (a) (b) (ha) (hb) _ (hg.below K.below hg.size)) ?_
  rintro e w4 ⟨f3, rfl, s3, l⟩
  have K := K.call l
  clear l
  refine ⟨_, rfl, K, ?_⟩
  simp only [Act.put, List.setIfInBounds_toArray, List.set_cons_zero, List.set_cons_succ]
  refine callH (i := 7) (some 20) rfl (by kernel_rfl) rfl rfl (fun _ => by kernel_rfl) (add_any (f1) (f2) (s1.1) (s2.1) _ (hg.below K.below hg.size)) ?_
  rintro e w5 ⟨f4, rfl, s4, l⟩
  have K := K.call l
  clear l
  refine ⟨_, rfl, K, ?_⟩
  simp only [Act.put, List.setIfInBounds_toArray, List.set_cons_zero, List.set_cons_succ]
  refine pureH (i := 8) (some 21) rfl (.bool true) rfl rfl (fun w => eqlV 32 (f3) (f4) 23 5 _ _ _ rfl rfl rfl Tryd.underlying23 Tryd.underlying5 (fun _ => by kernel_rfl) (by kernel_rfl) (s3.1) (s4.1) true (decide_eq_true (by rw [s3.2, s4.2, s1.2, s2.2, Int.emod_add_emod, Int.add_emod_emod])) w) (by kernel_rfl) (by kernel_rfl) (by kernel_rfl) (fun _ _ _ h => h) K ?_
  simp only [Act.put, List.setIfInBounds_toArray, List.set_cons_zero, List.set_cons_succ]
  refine pureH (i := 9) (some 22) rfl (.bool true) rfl rfl (fun _ => by kernel_rfl) (by kernel_rfl) (by kernel_rfl) (by kernel_rfl) (fun _ _ _ h => h) K ?_
  simp only [Act.put, List.setIfInBounds_toArray, List.set_cons_zero, List.set_cons_succ]
  refine pureH (i := 10) (some 23) rfl (.bool true) rfl rfl (fun _ => by kernel_rfl) (by kernel_rfl) (by kernel_rfl) (by kernel_rfl) (fun _ _ _ h => h) K ?_
  simp only [Act.put, List.setIfInBounds_toArray, List.set_cons_zero, List.set_cons_succ]
  refine rowH (i := 11) (some 24) rfl .u8 32 (a) (w.heap.size) 23 _ _ rfl rfl rfl rfl (by kernel_rfl) (by kernel_rfl) (by kernel_rfl) (fun _ _ _ h => h) Tryd.underlying23 rfl (key_info _) K (fun _ h => h.get _ _ (List.mem_cons_of_mem _ (List.mem_cons_of_mem _ (List.mem_cons_of_mem _ List.mem_cons_self)))) ?_
  simp only [Act.put, List.setIfInBounds_toArray, List.set_cons_zero, List.set_cons_succ]
  refine rowH (i := 12) (some 25) rfl .u8 32 (b) (w.heap.size + 1) 23 _ _ rfl rfl rfl rfl (by kernel_rfl) (by kernel_rfl) (by kernel_rfl) (fun _ _ _ h => h) Tryd.underlying23 rfl (key_info _) K (fun _ h => h.get _ _ (List.mem_cons_of_mem _ (List.mem_cons_of_mem _ List.mem_cons_self))) ?_
  simp only [Act.put, List.setIfInBounds_toArray, List.set_cons_zero, List.set_cons_succ]
  refine rowH (i := 14) (some 27) rfl .u8 32 (f1) (w2.heap.size) 23 _ _ rfl rfl rfl rfl (by kernel_rfl) (by kernel_rfl) (by kernel_rfl) (fun _ _ _ h => h) Tryd.underlying23 rfl (key_info _) K (fun _ h => h.get _ _ (List.mem_cons_of_mem _ List.mem_cons_self)) ?_
  simp only [Act.put, List.setIfInBounds_toArray, List.set_cons_zero, List.set_cons_succ]
  refine rowH (i := 15) (some 28) rfl .u8 32 (f2) (w3.heap.size) 23 _ _ rfl rfl rfl rfl (by kernel_rfl) (by kernel_rfl) (by kernel_rfl) (fun _ _ _ h => h) Tryd.underlying23 rfl (key_info _) K (fun _ h => h.get _ _ List.mem_cons_self) ?_
  simp only [Act.put, List.setIfInBounds_toArray, List.set_cons_zero, List.set_cons_succ]
  refine callH (i := 13) (some 26) rfl (by kernel_rfl) rfl rfl (fun _ => by kernel_rfl) (sub_any (a) (b) (ha) (hb) _ (hg.below K.below hg.size)) ?_
  rintro e w6 ⟨f5, rfl, s5, l⟩
  have K := K.call l
  clear l
  refine ⟨_, rfl, K, ?_⟩
  simp only [Act.put, List.setIfInBounds_toArray, List.set_cons_zero, List.set_cons_succ]
  refine callH (i := 16) (some 29) rfl (by kernel_rfl) rfl rfl (fun _ => by kernel_rfl) (sub_any (f1) (f2) (s1.1) (s2.1) _ (hg.below K.below hg.size)) ?_
  rintro e w7 ⟨f6, rfl, s6, l⟩
  have K := K.call l
  clear l
  refine ⟨_, rfl, K, ?_⟩
  simp only [Act.put, List.setIfInBounds_toArray, List.set_cons_zero, List.set_cons_succ]
  refine pureH (i := 17) (some 30) rfl (.bool true) rfl rfl (fun w => eqlV 32 (f5) (f6) 23 5 _ _ _ rfl rfl rfl Tryd.underlying23 Tryd.underlying5 (fun _ => by kernel_rfl) (by kernel_rfl) (s5.1) (s6.1) true (decide_eq_true (by rw [s5.2, s6.2, s1.2, s2.2, Int.emod_sub_emod, Int.sub_emod_emod])) w) (by kernel_rfl) (by kernel_rfl) (by kernel_rfl) (fun _ _ _ h => h) K ?_
  simp only [Act.put, List.setIfInBounds_toArray, List.set_cons_zero, List.set_cons_succ]
  refine pureH (i := 18) (some 31) rfl (.bool true) rfl rfl (fun _ => by kernel_rfl) (by kernel_rfl) (by kernel_rfl) (by kernel_rfl) (fun _ _ _ h => h) K ?_
  simp only [Act.put, List.setIfInBounds_toArray, List.set_cons_zero, List.set_cons_succ]
  refine pureH (i := 19) (some 32) rfl (.bool true) rfl rfl (fun _ => by kernel_rfl) (by kernel_rfl) (by kernel_rfl) (by kernel_rfl) (fun _ _ _ h => h) K ?_
  simp only [Act.put, List.setIfInBounds_toArray, List.set_cons_zero, List.set_cons_succ]
  refine rowH (i := 20) (some 33) rfl .u8 32 (a) (w.heap.size) 23 _ _ rfl rfl rfl rfl (by kernel_rfl) (by kernel_rfl) (by kernel_rfl) (fun _ _ _ h => h) Tryd.underlying23 rfl (key_info _) K (fun _ h => h.get _ _ (List.mem_cons_of_mem _ (List.mem_cons_of_mem _ (List.mem_cons_of_mem _ List.mem_cons_self)))) ?_
  simp only [Act.put, List.setIfInBounds_toArray, List.set_cons_zero, List.set_cons_succ]
  refine rowH (i := 21) (some 34) rfl .u8 32 (b) (w.heap.size + 1) 23 _ _ rfl rfl rfl rfl (by kernel_rfl) (by kernel_rfl) (by kernel_rfl) (fun _ _ _ h => h) Tryd.underlying23 rfl (key_info _) K (fun _ h => h.get _ _ (List.mem_cons_of_mem _ (List.mem_cons_of_mem _ List.mem_cons_self))) ?_
  simp only [Act.put, List.setIfInBounds_toArray, List.set_cons_zero, List.set_cons_succ]
  refine rowH (i := 23) (some 36) rfl .u8 32 (f1) (w2.heap.size) 23 _ _ rfl rfl rfl rfl (by kernel_rfl) (by kernel_rfl) (by kernel_rfl) (fun _ _ _ h => h) Tryd.underlying23 rfl (key_info _) K (fun _ h => h.get _ _ (List.mem_cons_of_mem _ List.mem_cons_self)) ?_
  simp only [Act.put, List.setIfInBounds_toArray, List.set_cons_zero, List.set_cons_succ]
  refine rowH (i := 24) (some 37) rfl .u8 32 (f2) (w3.heap.size) 23 _ _ rfl rfl rfl rfl (by kernel_rfl) (by kernel_rfl) (by kernel_rfl) (fun _ _ _ h => h) Tryd.underlying23 rfl (key_info _) K (fun _ h => h.get _ _ List.mem_cons_self) ?_
  simp only [Act.put, List.setIfInBounds_toArray, List.set_cons_zero, List.set_cons_succ]
  refine callH (i := 22) (some 35) rfl (by kernel_rfl) rfl rfl (fun _ => by kernel_rfl) (mul_any (a) (b) (ha) (hb) _ (hg.below K.below hg.size)) ?_
  rintro e w8 ⟨f7, rfl, s7, l⟩
  have K := K.call l
  clear l
  refine ⟨_, rfl, K, ?_⟩
  simp only [Act.put, List.setIfInBounds_toArray, List.set_cons_zero, List.set_cons_succ]
  refine callH (i := 25) (some 38) rfl (by kernel_rfl) rfl rfl (fun _ => by kernel_rfl) (mul_any (f1) (f2) (s1.1) (s2.1) _ (hg.below K.below hg.size)) ?_
  rintro e w9 ⟨f8, rfl, s8, l⟩
  have K := K.call l
  clear l
  refine ⟨_, rfl, K, ?_⟩
  simp only [Act.put, List.setIfInBounds_toArray, List.set_cons_zero, List.set_cons_succ]
  refine pureH (i := 26) (some 39) rfl (.bool true) rfl rfl (fun w => eqlV 32 (f7) (f8) 23 5 _ _ _ rfl rfl rfl Tryd.underlying23 Tryd.underlying5 (fun _ => by kernel_rfl) (by kernel_rfl) (s7.1) (s8.1) true (decide_eq_true (by rw [s7.2, s8.2, s1.2, s2.2, mmod])) w) (by kernel_rfl) (by kernel_rfl) (by kernel_rfl) (fun _ _ _ h => h) K ?_
  simp only [Act.put, List.setIfInBounds_toArray, List.set_cons_zero, List.set_cons_succ]
  refine pureH (i := 27) (some 40) rfl (.bool true) rfl rfl (fun _ => by kernel_rfl) (by kernel_rfl) (by kernel_rfl) (by kernel_rfl) (fun _ _ _ h => h) K ?_
  simp only [Act.put, List.setIfInBounds_toArray, List.set_cons_zero, List.set_cons_succ]
  refine pureH (i := 28) (some 41) rfl (.bool true) rfl rfl (fun _ => by kernel_rfl) (by kernel_rfl) (by kernel_rfl) (by kernel_rfl) (fun _ _ _ h => h) K ?_
  simp only [Act.put, List.setIfInBounds_toArray, List.set_cons_zero, List.set_cons_succ]
  refine rowH (i := 29) (some 42) rfl .u8 32 (a) (w.heap.size) 23 _ _ rfl rfl rfl rfl (by kernel_rfl) (by kernel_rfl) (by kernel_rfl) (fun _ _ _ h => h) Tryd.underlying23 rfl (key_info _) K (fun _ h => h.get _ _ (List.mem_cons_of_mem _ (List.mem_cons_of_mem _ (List.mem_cons_of_mem _ List.mem_cons_self)))) ?_
  simp only [Act.put, List.setIfInBounds_toArray, List.set_cons_zero, List.set_cons_succ]
  refine rowH (i := 31) (some 44) rfl .u8 32 (f1) (w2.heap.size) 23 _ _ rfl rfl rfl rfl (by kernel_rfl) (by kernel_rfl) (by kernel_rfl) (fun _ _ _ h => h) Tryd.underlying23 rfl (key_info _) K (fun _ h => h.get _ _ (List.mem_cons_of_mem _ List.mem_cons_self)) ?_
  simp only [Act.put, List.setIfInBounds_toArray, List.set_cons_zero, List.set_cons_succ]
  refine callH (i := 30) (some 43) rfl (by kernel_rfl) rfl rfl (fun _ => by kernel_rfl) (invert_any (a) (ha) _ (hg.below K.below hg.size)) ?_
  rintro e w10 ⟨f9, rfl, s9, l⟩
  have K := K.call l
  clear l
  refine ⟨_, rfl, K, ?_⟩
  simp only [Act.put, List.setIfInBounds_toArray, List.set_cons_zero, List.set_cons_succ]
  refine callH (i := 32) (some 45) rfl (by kernel_rfl) rfl rfl (fun _ => by kernel_rfl) (invert_any (f1) (s1.1) _ (hg.below K.below hg.size)) ?_
  rintro e w11 ⟨f10, rfl, s10, l⟩
  have K := K.call l
  clear l
  refine ⟨_, rfl, K, ?_⟩
  simp only [Act.put, List.setIfInBounds_toArray, List.set_cons_zero, List.set_cons_succ]
  refine pureH (i := 33) (some 46) rfl (.bool true) rfl rfl (fun w => eqlV 32 (f9) (f10) 23 5 _ _ _ rfl rfl rfl Tryd.underlying23 Tryd.underlying5 (fun _ => by kernel_rfl) (by kernel_rfl) (s9.1) (s10.1) true (decide_eq_true (by rw [s9.2, s10.2, s1.2, mpow])) w) (by kernel_rfl) (by kernel_rfl) (by kernel_rfl) (fun _ _ _ h => h) K ?_
  simp only [Act.put, List.setIfInBounds_toArray, List.set_cons_zero, List.set_cons_succ]
  refine pureH (i := 34) (some 47) rfl (.bool true) rfl rfl (fun _ => by kernel_rfl) (by kernel_rfl) (by kernel_rfl) (by kernel_rfl) (fun _ _ _ h => h) K ?_
  simp only [Act.put, List.setIfInBounds_toArray, List.set_cons_zero, List.set_cons_succ]
  refine pureH (i := 35) (some 48) rfl (.bool true) rfl rfl (fun _ => by kernel_rfl) (by kernel_rfl) (by kernel_rfl) (by kernel_rfl) (fun _ _ _ h => h) K ?_
  simp only [Act.put, List.setIfInBounds_toArray, List.set_cons_zero, List.set_cons_succ]
  refine rowH (i := 36) (some 49) rfl .u8 32 (a) (w.heap.size) 23 _ _ rfl rfl rfl rfl (by kernel_rfl) (by kernel_rfl) (by kernel_rfl) (fun _ _ _ h => h) Tryd.underlying23 rfl (key_info _) K (fun _ h => h.get _ _ (List.mem_cons_of_mem _ (List.mem_cons_of_mem _ (List.mem_cons_of_mem _ List.mem_cons_self)))) ?_
  simp only [Act.put, List.setIfInBounds_toArray, List.set_cons_zero, List.set_cons_succ]
  refine rowH (i := 37) (some 50) rfl .u8 32 (b) (w.heap.size + 1) 23 _ _ rfl rfl rfl rfl (by kernel_rfl) (by kernel_rfl) (by kernel_rfl) (fun _ _ _ h => h) Tryd.underlying23 rfl (key_info _) K (fun _ h => h.get _ _ (List.mem_cons_of_mem _ (List.mem_cons_of_mem _ List.mem_cons_self))) ?_
  simp only [Act.put, List.setIfInBounds_toArray, List.set_cons_zero, List.set_cons_succ]
  refine rowH (i := 39) (some 52) rfl .u8 32 (f1) (w2.heap.size) 23 _ _ rfl rfl rfl rfl (by kernel_rfl) (by kernel_rfl) (by kernel_rfl) (fun _ _ _ h => h) Tryd.underlying23 rfl (key_info _) K (fun _ h => h.get _ _ (List.mem_cons_of_mem _ List.mem_cons_self)) ?_
  simp only [Act.put, List.setIfInBounds_toArray, List.set_cons_zero, List.set_cons_succ]
  refine rowH (i := 40) (some 53) rfl .u8 32 (f2) (w3.heap.size) 23 _ _ rfl rfl rfl rfl (by kernel_rfl) (by kernel_rfl) (by kernel_rfl) (fun _ _ _ h => h) Tryd.underlying23 rfl (key_info _) K (fun _ h => h.get _ _ List.mem_cons_self) ?_
  simp only [Act.put, List.setIfInBounds_toArray, List.set_cons_zero, List.set_cons_succ]
  refine callH (i := 38) (some 51) rfl (by kernel_rfl) rfl rfl (fun _ => by kernel_rfl) (equal_any (a) (b) (ha) (hb) _ (hg.below K.below hg.size)) ?_
  rintro e w12 ⟨rfl, l⟩
  have K := K.call l
  clear l
  refine ⟨_, rfl, K, ?_⟩
  rw [decide_eq_true hz]
  simp only [Act.put, List.setIfInBounds_toArray, List.set_cons_zero, List.set_cons_succ]
  refine callH (i := 41) (some 54) rfl (by kernel_rfl) rfl rfl (fun _ => by kernel_rfl) (equal_any (f1) (f2) (s1.1) (s2.1) _ (hg.below K.below hg.size)) ?_
  rintro e w13 ⟨rfl, l⟩
  have K := K.call l
  clear l
  refine ⟨_, rfl, K, ?_⟩
  rw [decide_eq_true (by rw [s1.2, s2.2, Int.emod_emod, Int.emod_emod]; exact hz)]
  simp only [Act.put, List.setIfInBounds_toArray, List.set_cons_zero, List.set_cons_succ]
  refine pureH (i := 42) (some 55) rfl (.bool true) rfl rfl (fun _ => by kernel_rfl) (by kernel_rfl) (by kernel_rfl) (by kernel_rfl) (fun _ _ _ h => h) K ?_
  simp only [Act.put, List.setIfInBounds_toArray, List.set_cons_zero, List.set_cons_succ]
  refine pureH (i := 43) (some 56) rfl (.bool true) rfl rfl (fun _ => by kernel_rfl) (by kernel_rfl) (by kernel_rfl) (by kernel_rfl) (fun _ _ _ h => h) K ?_
  simp only [Act.put, List.setIfInBounds_toArray, List.set_cons_zero, List.set_cons_succ]
  refine pureH (i := 44) (some 4) rfl (.bool true) rfl rfl (fun _ => by kernel_rfl) (by kernel_rfl) (by kernel_rfl) (by kernel_rfl) (fun _ _ _ h => h) K ?_
  simp only [Act.put, List.setIfInBounds_toArray, List.set_cons_zero, List.set_cons_succ]
  refine wpAnyH_done (by kernel_rfl) ?_ _
  go_wp2
  go_ret
  exact ⟨rfl, K.below⟩

set_option maxRecDepth 10000 in
set_option maxHeartbeats 4000000 in
theorem law_CurveStands_no (a b : Nat → Int) (ha : In 256 32 a) (hb : In 256 32 b) (hz : ¬ val 256 a 32 % Q = val 256 b 32 % Q) (w : World) (hg : Glob w) :
    Calls Tryd.prog 7 #[(.agg (row .u8 32 (a)).toArray), (.agg (row .u8 32 (b)).toArray)] w fun e w' => e = .returned (.bool true) ∧ Below w.heap.size w w' := by
  have K := Kp.init w
  have K := K.box a 23 (w.heap.size) rfl
  have K := K.box b 23 (w.heap.size + 1) (by simp)
  go_enter Tryd.func7, Tryd.ntmps7
  go_upto_region 1 with fail
  refine wp_region_list ?_
  refine callL rfl (fun _ => by kernel_rfl) (shown_any _ (hg.below K.below hg.size)) ?_
  rintro e w1 ⟨rfl, l⟩
  have K := K.call l
  clear l
  refine ⟨_, rfl, ?_⟩
  simp only [Act.put, List.setIfInBounds_toArray, List.set_cons_zero, List.set_cons_succ]
  refine pureL (.bool true) rfl (fun _ => by kernel_rfl) ?_
  simp only [Act.put, List.setIfInBounds_toArray, List.set_cons_zero, List.set_cons_succ]
  show Exit.then _ _ _ _ _
  go_upto_region 2 with fail
  refine wp_region_list ?_
  refine rowL .u8 32 (a) (w.heap.size) 23 _ _ rfl rfl rfl Tryd.underlying23 rfl (key_info _) (K.get _ _ (List.mem_cons_of_mem _ List.mem_cons_self)) ?_
  simp only [Act.put, List.setIfInBounds_toArray, List.set_cons_zero, List.set_cons_succ]
  refine callL rfl (fun _ => by kernel_rfl) (canon_any (a) (ha) _ (hg.below K.below hg.size)) ?_
  rintro e w2 ⟨f1, rfl, s1, l⟩
  have K := K.call l
  clear l
  refine ⟨_, rfl, ?_⟩
  simp only [Act.put, List.setIfInBounds_toArray, List.set_cons_zero, List.set_cons_succ]
  refine allocL #[.int .u8 0, .int .u8 0, .int .u8 0, .int .u8 0, .int .u8 0, .int .u8 0, .int .u8 0, .int .u8 0, .int .u8 0, .int .u8 0, .int .u8 0, .int .u8 0, .int .u8 0, .int .u8 0, .int .u8 0, .int .u8 0, .int .u8 0, .int .u8 0, .int .u8 0, .int .u8 0, .int .u8 0, .int .u8 0, .int .u8 0, .int .u8 0, .int .u8 0, .int .u8 0, .int .u8 0, .int .u8 0, .int .u8 0, .int .u8 0, .int .u8 0, .int .u8 0] 23 rfl (fun _ => by kernel_rfl) ?_
  simp only [Act.put, List.setIfInBounds_toArray, List.set_cons_zero, List.set_cons_succ]
  refine storesL .u8 32 (f1) (w2.heap.size) 23 _ _ rfl rfl rfl rfl (key_there (key_zero _ _ _ rfl)) (key_info' _) ?_
  have K := K.fresh (f1) #[.int .u8 0, .int .u8 0, .int .u8 0, .int .u8 0, .int .u8 0, .int .u8 0, .int .u8 0, .int .u8 0, .int .u8 0, .int .u8 0, .int .u8 0, .int .u8 0, .int .u8 0, .int .u8 0, .int .u8 0, .int .u8 0, .int .u8 0, .int .u8 0, .int .u8 0, .int .u8 0, .int .u8 0, .int .u8 0, .int .u8 0, .int .u8 0, .int .u8 0, .int .u8 0, .int .u8 0, .int .u8 0, .int .u8 0, .int .u8 0, .int .u8 0, .int .u8 0] 23 (key_zero _ _ _ rfl)
  simp only [Act.put]
  show Exit.then _ _ _ _ _
  go_upto_region 3 with fail
  refine wp_region_list ?_
  refine rowL .u8 32 (b) (w.heap.size + 1) 23 _ _ rfl rfl rfl Tryd.underlying23 rfl (key_info _) (K.get _ _ (List.mem_cons_of_mem _ List.mem_cons_self)) ?_
  simp only [Act.put, List.setIfInBounds_toArray, List.set_cons_zero, List.set_cons_succ]
  refine callL rfl (fun _ => by kernel_rfl) (canon_any (b) (hb) _ (hg.below K.below hg.size)) ?_
  rintro e w3 ⟨f2, rfl, s2, l⟩
  have K := K.call l
  clear l
  refine ⟨_, rfl, ?_⟩
  simp only [Act.put, List.setIfInBounds_toArray, List.set_cons_zero, List.set_cons_succ]
  refine allocL #[.int .u8 0, .int .u8 0, .int .u8 0, .int .u8 0, .int .u8 0, .int .u8 0, .int .u8 0, .int .u8 0, .int .u8 0, .int .u8 0, .int .u8 0, .int .u8 0, .int .u8 0, .int .u8 0, .int .u8 0, .int .u8 0, .int .u8 0, .int .u8 0, .int .u8 0, .int .u8 0, .int .u8 0, .int .u8 0, .int .u8 0, .int .u8 0, .int .u8 0, .int .u8 0, .int .u8 0, .int .u8 0, .int .u8 0, .int .u8 0, .int .u8 0, .int .u8 0] 23 rfl (fun _ => by kernel_rfl) ?_
  simp only [Act.put, List.setIfInBounds_toArray, List.set_cons_zero, List.set_cons_succ]
  refine storesL .u8 32 (f2) (w3.heap.size) 23 _ _ rfl rfl rfl rfl (key_there (key_zero _ _ _ rfl)) (key_info' _) ?_
  have K := K.fresh (f2) #[.int .u8 0, .int .u8 0, .int .u8 0, .int .u8 0, .int .u8 0, .int .u8 0, .int .u8 0, .int .u8 0, .int .u8 0, .int .u8 0, .int .u8 0, .int .u8 0, .int .u8 0, .int .u8 0, .int .u8 0, .int .u8 0, .int .u8 0, .int .u8 0, .int .u8 0, .int .u8 0, .int .u8 0, .int .u8 0, .int .u8 0, .int .u8 0, .int .u8 0, .int .u8 0, .int .u8 0, .int .u8 0, .int .u8 0, .int .u8 0, .int .u8 0, .int .u8 0] 23 (key_zero _ _ _ rfl)
  simp only [Act.put]
  show Exit.then _ _ _ _ _
  go_upto_region 4 with fail
  refine wp_region_held_drew (S := fun w' => Kp w ([(w3.heap.size, f2), (w2.heap.size, f1), (w.heap.size + 1, b), (w.heap.size, a)]) w') (by kernel_rfl) K.drew ?_
  intro K
  refine pureH (i := 0) (some 13) rfl (.bool true) rfl rfl (fun _ => by kernel_rfl) (by kernel_rfl) (by kernel_rfl) (by kernel_rfl) (fun _ _ _ h => h) K ?_
  simp only [Act.put, List.setIfInBounds_toArray, List.set_cons_zero, List.set_cons_succ]
  refine pureH (i := 1) (some 14) rfl (.bool true) rfl rfl (fun _ => by kernel_rfl) (by kernel_rfl) (by kernel_rfl) (by kernel_rfl) (fun _ _ _ h => h) K ?_
  simp only [Act.put, List.setIfInBounds_toArray, List.set_cons_zero, List.set_cons_succ]
  refine rowH (i := 2) (some 15) rfl .u8 32 (a) (w.heap.size) 23 _ _ rfl rfl rfl rfl (by kernel_rfl) (by kernel_rfl) (by kernel_rfl) (fun _ _ _ h => h) Tryd.underlying23 rfl (key_info _) K (fun _ h => h.get _ _ (List.mem_cons_of_mem _ (List.mem_cons_of_mem _ (List.mem_cons_of_mem _ List.mem_cons_self)))) ?_
  simp only [Act.put, List.setIfInBounds_toArray, List.set_cons_zero, List.set_cons_succ]
  refine rowH (i := 3) (some 16) rfl .u8 32 (b) (w.heap.size + 1) 23 _ _ rfl rfl rfl rfl (by kernel_rfl) (by kernel_rfl) (by kernel_rfl) (fun _ _ _ h => h) Tryd.underlying23 rfl (key_info _) K (fun _ h => h.get _ _ (List.mem_cons_of_mem _ (List.mem_cons_of_mem _ List.mem_cons_self))) ?_
  simp only [Act.put, List.setIfInBounds_toArray, List.set_cons_zero, List.set_cons_succ]
  refine rowH (i := 5) (some 18) rfl .u8 32 (f1) (w2.heap.size) 23 _ _ rfl rfl rfl rfl (by kernel_rfl) (by kernel_rfl) (by kernel_rfl) (fun _ _ _ h => h) Tryd.underlying23 rfl (key_info _) K (fun _ h => h.get _ _ (List.mem_cons_of_mem _ List.mem_cons_self)) ?_
  simp only [Act.put, List.setIfInBounds_toArray, List.set_cons_zero, List.set_cons_succ]
  refine rowH (i := 6) (some 19) rfl .u8 32 (f2) (w3.heap.size) 23 _ _ rfl rfl rfl rfl (by kernel_rfl) (by kernel_rfl) (by kernel_rfl) (fun _ _ _ h => h) Tryd.underlying23 rfl (key_info _) K (fun _ h => h.get _ _ List.mem_cons_self) ?_
  simp only [Act.put, List.setIfInBounds_toArray, List.set_cons_zero, List.set_cons_succ]
  refine callH (i := 4) (some 17) rfl (by kernel_rfl) rfl rfl (fun _ => by kernel_rfl) (add_any (a) (b) (ha) (hb) _ (hg.below K.below hg.size)) ?_
  rintro e w4 ⟨f3, rfl, s3, l⟩
  have K := K.call l
  clear l
  refine ⟨_, rfl, K, ?_⟩
  simp only [Act.put, List.setIfInBounds_toArray, List.set_cons_zero, List.set_cons_succ]
  refine callH (i := 7) (some 20) rfl (by kernel_rfl) rfl rfl (fun _ => by kernel_rfl) (add_any (f1) (f2) (s1.1) (s2.1) _ (hg.below K.below hg.size)) ?_
  rintro e w5 ⟨f4, rfl, s4, l⟩
  have K := K.call l
  clear l
  refine ⟨_, rfl, K, ?_⟩
  simp only [Act.put, List.setIfInBounds_toArray, List.set_cons_zero, List.set_cons_succ]
  refine pureH (i := 8) (some 21) rfl (.bool true) rfl rfl (fun w => eqlV 32 (f3) (f4) 23 5 _ _ _ rfl rfl rfl Tryd.underlying23 Tryd.underlying5 (fun _ => by kernel_rfl) (by kernel_rfl) (s3.1) (s4.1) true (decide_eq_true (by rw [s3.2, s4.2, s1.2, s2.2, Int.emod_add_emod, Int.add_emod_emod])) w) (by kernel_rfl) (by kernel_rfl) (by kernel_rfl) (fun _ _ _ h => h) K ?_
  simp only [Act.put, List.setIfInBounds_toArray, List.set_cons_zero, List.set_cons_succ]
  refine pureH (i := 9) (some 22) rfl (.bool true) rfl rfl (fun _ => by kernel_rfl) (by kernel_rfl) (by kernel_rfl) (by kernel_rfl) (fun _ _ _ h => h) K ?_
  simp only [Act.put, List.setIfInBounds_toArray, List.set_cons_zero, List.set_cons_succ]
  refine pureH (i := 10) (some 23) rfl (.bool true) rfl rfl (fun _ => by kernel_rfl) (by kernel_rfl) (by kernel_rfl) (by kernel_rfl) (fun _ _ _ h => h) K ?_
  simp only [Act.put, List.setIfInBounds_toArray, List.set_cons_zero, List.set_cons_succ]
  refine rowH (i := 11) (some 24) rfl .u8 32 (a) (w.heap.size) 23 _ _ rfl rfl rfl rfl (by kernel_rfl) (by kernel_rfl) (by kernel_rfl) (fun _ _ _ h => h) Tryd.underlying23 rfl (key_info _) K (fun _ h => h.get _ _ (List.mem_cons_of_mem _ (List.mem_cons_of_mem _ (List.mem_cons_of_mem _ List.mem_cons_self)))) ?_
  simp only [Act.put, List.setIfInBounds_toArray, List.set_cons_zero, List.set_cons_succ]
  refine rowH (i := 12) (some 25) rfl .u8 32 (b) (w.heap.size + 1) 23 _ _ rfl rfl rfl rfl (by kernel_rfl) (by kernel_rfl) (by kernel_rfl) (fun _ _ _ h => h) Tryd.underlying23 rfl (key_info _) K (fun _ h => h.get _ _ (List.mem_cons_of_mem _ (List.mem_cons_of_mem _ List.mem_cons_self))) ?_
  simp only [Act.put, List.setIfInBounds_toArray, List.set_cons_zero, List.set_cons_succ]
  refine rowH (i := 14) (some 27) rfl .u8 32 (f1) (w2.heap.size) 23 _ _ rfl rfl rfl rfl (by kernel_rfl) (by kernel_rfl) (by kernel_rfl) (fun _ _ _ h => h) Tryd.underlying23 rfl (key_info _) K (fun _ h => h.get _ _ (List.mem_cons_of_mem _ List.mem_cons_self)) ?_
  simp only [Act.put, List.setIfInBounds_toArray, List.set_cons_zero, List.set_cons_succ]
  refine rowH (i := 15) (some 28) rfl .u8 32 (f2) (w3.heap.size) 23 _ _ rfl rfl rfl rfl (by kernel_rfl) (by kernel_rfl) (by kernel_rfl) (fun _ _ _ h => h) Tryd.underlying23 rfl (key_info _) K (fun _ h => h.get _ _ List.mem_cons_self) ?_
  simp only [Act.put, List.setIfInBounds_toArray, List.set_cons_zero, List.set_cons_succ]
  refine callH (i := 13) (some 26) rfl (by kernel_rfl) rfl rfl (fun _ => by kernel_rfl) (sub_any (a) (b) (ha) (hb) _ (hg.below K.below hg.size)) ?_
  rintro e w6 ⟨f5, rfl, s5, l⟩
  have K := K.call l
  clear l
  refine ⟨_, rfl, K, ?_⟩
  simp only [Act.put, List.setIfInBounds_toArray, List.set_cons_zero, List.set_cons_succ]
  refine callH (i := 16) (some 29) rfl (by kernel_rfl) rfl rfl (fun _ => by kernel_rfl) (sub_any (f1) (f2) (s1.1) (s2.1) _ (hg.below K.below hg.size)) ?_
  rintro e w7 ⟨f6, rfl, s6, l⟩
  have K := K.call l
  clear l
  refine ⟨_, rfl, K, ?_⟩
  simp only [Act.put, List.setIfInBounds_toArray, List.set_cons_zero, List.set_cons_succ]
  refine pureH (i := 17) (some 30) rfl (.bool true) rfl rfl (fun w => eqlV 32 (f5) (f6) 23 5 _ _ _ rfl rfl rfl Tryd.underlying23 Tryd.underlying5 (fun _ => by kernel_rfl) (by kernel_rfl) (s5.1) (s6.1) true (decide_eq_true (by rw [s5.2, s6.2, s1.2, s2.2, Int.emod_sub_emod, Int.sub_emod_emod])) w) (by kernel_rfl) (by kernel_rfl) (by kernel_rfl) (fun _ _ _ h => h) K ?_
  simp only [Act.put, List.setIfInBounds_toArray, List.set_cons_zero, List.set_cons_succ]
  refine pureH (i := 18) (some 31) rfl (.bool true) rfl rfl (fun _ => by kernel_rfl) (by kernel_rfl) (by kernel_rfl) (by kernel_rfl) (fun _ _ _ h => h) K ?_
  simp only [Act.put, List.setIfInBounds_toArray, List.set_cons_zero, List.set_cons_succ]
  refine pureH (i := 19) (some 32) rfl (.bool true) rfl rfl (fun _ => by kernel_rfl) (by kernel_rfl) (by kernel_rfl) (by kernel_rfl) (fun _ _ _ h => h) K ?_
  simp only [Act.put, List.setIfInBounds_toArray, List.set_cons_zero, List.set_cons_succ]
  refine rowH (i := 20) (some 33) rfl .u8 32 (a) (w.heap.size) 23 _ _ rfl rfl rfl rfl (by kernel_rfl) (by kernel_rfl) (by kernel_rfl) (fun _ _ _ h => h) Tryd.underlying23 rfl (key_info _) K (fun _ h => h.get _ _ (List.mem_cons_of_mem _ (List.mem_cons_of_mem _ (List.mem_cons_of_mem _ List.mem_cons_self)))) ?_
  simp only [Act.put, List.setIfInBounds_toArray, List.set_cons_zero, List.set_cons_succ]
  refine rowH (i := 21) (some 34) rfl .u8 32 (b) (w.heap.size + 1) 23 _ _ rfl rfl rfl rfl (by kernel_rfl) (by kernel_rfl) (by kernel_rfl) (fun _ _ _ h => h) Tryd.underlying23 rfl (key_info _) K (fun _ h => h.get _ _ (List.mem_cons_of_mem _ (List.mem_cons_of_mem _ List.mem_cons_self))) ?_
  simp only [Act.put, List.setIfInBounds_toArray, List.set_cons_zero, List.set_cons_succ]
  refine rowH (i := 23) (some 36) rfl .u8 32 (f1) (w2.heap.size) 23 _ _ rfl rfl rfl rfl (by kernel_rfl) (by kernel_rfl) (by kernel_rfl) (fun _ _ _ h => h) Tryd.underlying23 rfl (key_info _) K (fun _ h => h.get _ _ (List.mem_cons_of_mem _ List.mem_cons_self)) ?_
  simp only [Act.put, List.setIfInBounds_toArray, List.set_cons_zero, List.set_cons_succ]
  refine rowH (i := 24) (some 37) rfl .u8 32 (f2) (w3.heap.size) 23 _ _ rfl rfl rfl rfl (by kernel_rfl) (by kernel_rfl) (by kernel_rfl) (fun _ _ _ h => h) Tryd.underlying23 rfl (key_info _) K (fun _ h => h.get _ _ List.mem_cons_self) ?_
  simp only [Act.put, List.setIfInBounds_toArray, List.set_cons_zero, List.set_cons_succ]
  refine callH (i := 22) (some 35) rfl (by kernel_rfl) rfl rfl (fun _ => by kernel_rfl) (mul_any (a) (b) (ha) (hb) _ (hg.below K.below hg.size)) ?_
  rintro e w8 ⟨f7, rfl, s7, l⟩
  have K := K.call l
  clear l
  refine ⟨_, rfl, K, ?_⟩
  simp only [Act.put, List.setIfInBounds_toArray, List.set_cons_zero, List.set_cons_succ]
  refine callH (i := 25) (some 38) rfl (by kernel_rfl) rfl rfl (fun _ => by kernel_rfl) (mul_any (f1) (f2) (s1.1) (s2.1) _ (hg.below K.below hg.size)) ?_
  rintro e w9 ⟨f8, rfl, s8, l⟩
  have K := K.call l
  clear l
  refine ⟨_, rfl, K, ?_⟩
  simp only [Act.put, List.setIfInBounds_toArray, List.set_cons_zero, List.set_cons_succ]
  refine pureH (i := 26) (some 39) rfl (.bool true) rfl rfl (fun w => eqlV 32 (f7) (f8) 23 5 _ _ _ rfl rfl rfl Tryd.underlying23 Tryd.underlying5 (fun _ => by kernel_rfl) (by kernel_rfl) (s7.1) (s8.1) true (decide_eq_true (by rw [s7.2, s8.2, s1.2, s2.2, mmod])) w) (by kernel_rfl) (by kernel_rfl) (by kernel_rfl) (fun _ _ _ h => h) K ?_
  simp only [Act.put, List.setIfInBounds_toArray, List.set_cons_zero, List.set_cons_succ]
  refine pureH (i := 27) (some 40) rfl (.bool true) rfl rfl (fun _ => by kernel_rfl) (by kernel_rfl) (by kernel_rfl) (by kernel_rfl) (fun _ _ _ h => h) K ?_
  simp only [Act.put, List.setIfInBounds_toArray, List.set_cons_zero, List.set_cons_succ]
  refine pureH (i := 28) (some 41) rfl (.bool true) rfl rfl (fun _ => by kernel_rfl) (by kernel_rfl) (by kernel_rfl) (by kernel_rfl) (fun _ _ _ h => h) K ?_
  simp only [Act.put, List.setIfInBounds_toArray, List.set_cons_zero, List.set_cons_succ]
  refine rowH (i := 29) (some 42) rfl .u8 32 (a) (w.heap.size) 23 _ _ rfl rfl rfl rfl (by kernel_rfl) (by kernel_rfl) (by kernel_rfl) (fun _ _ _ h => h) Tryd.underlying23 rfl (key_info _) K (fun _ h => h.get _ _ (List.mem_cons_of_mem _ (List.mem_cons_of_mem _ (List.mem_cons_of_mem _ List.mem_cons_self)))) ?_
  simp only [Act.put, List.setIfInBounds_toArray, List.set_cons_zero, List.set_cons_succ]
  refine rowH (i := 31) (some 44) rfl .u8 32 (f1) (w2.heap.size) 23 _ _ rfl rfl rfl rfl (by kernel_rfl) (by kernel_rfl) (by kernel_rfl) (fun _ _ _ h => h) Tryd.underlying23 rfl (key_info _) K (fun _ h => h.get _ _ (List.mem_cons_of_mem _ List.mem_cons_self)) ?_
  simp only [Act.put, List.setIfInBounds_toArray, List.set_cons_zero, List.set_cons_succ]
  refine callH (i := 30) (some 43) rfl (by kernel_rfl) rfl rfl (fun _ => by kernel_rfl) (invert_any (a) (ha) _ (hg.below K.below hg.size)) ?_
  rintro e w10 ⟨f9, rfl, s9, l⟩
  have K := K.call l
  clear l
  refine ⟨_, rfl, K, ?_⟩
  simp only [Act.put, List.setIfInBounds_toArray, List.set_cons_zero, List.set_cons_succ]
  refine callH (i := 32) (some 45) rfl (by kernel_rfl) rfl rfl (fun _ => by kernel_rfl) (invert_any (f1) (s1.1) _ (hg.below K.below hg.size)) ?_
  rintro e w11 ⟨f10, rfl, s10, l⟩
  have K := K.call l
  clear l
  refine ⟨_, rfl, K, ?_⟩
  simp only [Act.put, List.setIfInBounds_toArray, List.set_cons_zero, List.set_cons_succ]
  refine pureH (i := 33) (some 46) rfl (.bool true) rfl rfl (fun w => eqlV 32 (f9) (f10) 23 5 _ _ _ rfl rfl rfl Tryd.underlying23 Tryd.underlying5 (fun _ => by kernel_rfl) (by kernel_rfl) (s9.1) (s10.1) true (decide_eq_true (by rw [s9.2, s10.2, s1.2, mpow])) w) (by kernel_rfl) (by kernel_rfl) (by kernel_rfl) (fun _ _ _ h => h) K ?_
  simp only [Act.put, List.setIfInBounds_toArray, List.set_cons_zero, List.set_cons_succ]
  refine pureH (i := 34) (some 47) rfl (.bool true) rfl rfl (fun _ => by kernel_rfl) (by kernel_rfl) (by kernel_rfl) (by kernel_rfl) (fun _ _ _ h => h) K ?_
  simp only [Act.put, List.setIfInBounds_toArray, List.set_cons_zero, List.set_cons_succ]
  refine pureH (i := 35) (some 48) rfl (.bool true) rfl rfl (fun _ => by kernel_rfl) (by kernel_rfl) (by kernel_rfl) (by kernel_rfl) (fun _ _ _ h => h) K ?_
  simp only [Act.put, List.setIfInBounds_toArray, List.set_cons_zero, List.set_cons_succ]
  refine rowH (i := 36) (some 49) rfl .u8 32 (a) (w.heap.size) 23 _ _ rfl rfl rfl rfl (by kernel_rfl) (by kernel_rfl) (by kernel_rfl) (fun _ _ _ h => h) Tryd.underlying23 rfl (key_info _) K (fun _ h => h.get _ _ (List.mem_cons_of_mem _ (List.mem_cons_of_mem _ (List.mem_cons_of_mem _ List.mem_cons_self)))) ?_
  simp only [Act.put, List.setIfInBounds_toArray, List.set_cons_zero, List.set_cons_succ]
  refine rowH (i := 37) (some 50) rfl .u8 32 (b) (w.heap.size + 1) 23 _ _ rfl rfl rfl rfl (by kernel_rfl) (by kernel_rfl) (by kernel_rfl) (fun _ _ _ h => h) Tryd.underlying23 rfl (key_info _) K (fun _ h => h.get _ _ (List.mem_cons_of_mem _ (List.mem_cons_of_mem _ List.mem_cons_self))) ?_
  simp only [Act.put, List.setIfInBounds_toArray, List.set_cons_zero, List.set_cons_succ]
  refine rowH (i := 39) (some 52) rfl .u8 32 (f1) (w2.heap.size) 23 _ _ rfl rfl rfl rfl (by kernel_rfl) (by kernel_rfl) (by kernel_rfl) (fun _ _ _ h => h) Tryd.underlying23 rfl (key_info _) K (fun _ h => h.get _ _ (List.mem_cons_of_mem _ List.mem_cons_self)) ?_
  simp only [Act.put, List.setIfInBounds_toArray, List.set_cons_zero, List.set_cons_succ]
  refine rowH (i := 40) (some 53) rfl .u8 32 (f2) (w3.heap.size) 23 _ _ rfl rfl rfl rfl (by kernel_rfl) (by kernel_rfl) (by kernel_rfl) (fun _ _ _ h => h) Tryd.underlying23 rfl (key_info _) K (fun _ h => h.get _ _ List.mem_cons_self) ?_
  simp only [Act.put, List.setIfInBounds_toArray, List.set_cons_zero, List.set_cons_succ]
  refine callH (i := 38) (some 51) rfl (by kernel_rfl) rfl rfl (fun _ => by kernel_rfl) (equal_any (a) (b) (ha) (hb) _ (hg.below K.below hg.size)) ?_
  rintro e w12 ⟨rfl, l⟩
  have K := K.call l
  clear l
  refine ⟨_, rfl, K, ?_⟩
  rw [decide_eq_false hz]
  simp only [Act.put, List.setIfInBounds_toArray, List.set_cons_zero, List.set_cons_succ]
  refine callH (i := 41) (some 54) rfl (by kernel_rfl) rfl rfl (fun _ => by kernel_rfl) (equal_any (f1) (f2) (s1.1) (s2.1) _ (hg.below K.below hg.size)) ?_
  rintro e w13 ⟨rfl, l⟩
  have K := K.call l
  clear l
  refine ⟨_, rfl, K, ?_⟩
  rw [decide_eq_false (by rw [s1.2, s2.2, Int.emod_emod, Int.emod_emod]; exact hz)]
  simp only [Act.put, List.setIfInBounds_toArray, List.set_cons_zero, List.set_cons_succ]
  refine pureH (i := 42) (some 55) rfl (.bool true) rfl rfl (fun _ => by kernel_rfl) (by kernel_rfl) (by kernel_rfl) (by kernel_rfl) (fun _ _ _ h => h) K ?_
  simp only [Act.put, List.setIfInBounds_toArray, List.set_cons_zero, List.set_cons_succ]
  refine pureH (i := 43) (some 56) rfl (.bool true) rfl rfl (fun _ => by kernel_rfl) (by kernel_rfl) (by kernel_rfl) (by kernel_rfl) (fun _ _ _ h => h) K ?_
  simp only [Act.put, List.setIfInBounds_toArray, List.set_cons_zero, List.set_cons_succ]
  refine pureH (i := 44) (some 4) rfl (.bool true) rfl rfl (fun _ => by kernel_rfl) (by kernel_rfl) (by kernel_rfl) (by kernel_rfl) (fun _ _ _ h => h) K ?_
  simp only [Act.put, List.setIfInBounds_toArray, List.set_cons_zero, List.set_cons_succ]
  refine wpAnyH_done (by kernel_rfl) ?_ _
  go_wp2
  go_ret
  exact ⟨rfl, K.below⟩

theorem law_CurveStands (a b : Nat → Int) (ha : In 256 32 a) (hb : In 256 32 b) (w : World) (hg : Glob w) :
    Calls Tryd.prog 7 #[(.agg (row .u8 32 (a)).toArray), (.agg (row .u8 32 (b)).toArray)] w fun e w' => e = .returned (.bool true) ∧ Below w.heap.size w w' := by
  by_cases hz : val 256 a 32 % Q = val 256 b 32 % Q
  · exact law_CurveStands_yes a b ha hb hz w hg
  · exact law_CurveStands_no a b ha hb hz w hg

end Go.Proofs.YtjddngedifgneacDoor
