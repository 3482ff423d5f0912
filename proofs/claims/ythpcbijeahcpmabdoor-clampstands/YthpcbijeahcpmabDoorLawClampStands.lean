/- What the statement's function answers, whatever the bytes: true. -/
import Derived.Test.YthpcbijeahcpmabDoorShown3
import Derived.Test.YthpcbijeahcpmabDoorCz
namespace Go.Proofs.YthpcbijeahcpmabDoor
open Go.RowKit

set_option maxRecDepth 10000 in
set_option maxHeartbeats 4000000 in
theorem law_ClampStands (a b : Nat → Int) (ha : In 256 17 a) (hb : In 256 17 b) (w : World) (hg : Glob w) :
    Calls Tryd.prog 7 #[(.agg (row .u8 17 (a)).toArray), (.agg (row .u8 17 (b)).toArray)] w fun e w' => e = .returned (.bool true) ∧ Below w.heap.size w w' := by
  have K := Kr.init w
  replace K := K.box .u8 17 a 23 (w.heap.size) rfl
  replace K := K.box .u8 17 b 23 (w.heap.size + 1) (by simp)
  go_enter Tryd.func7, Tryd.ntmps7
  go_upto_region 1 with fail
  refine wp_region_list ?_
  refine callL rfl (fun _ => by kernel_rfl) (shown_any _ (hg.below K.below hg.size)) ?_
  rintro e w1 ⟨rfl, l⟩
  replace K := K.call l
  clear l
  refine ⟨_, rfl, ?_⟩
  simp only [Act.put, List.setIfInBounds_toArray, List.set_cons_zero, List.set_cons_succ]
  refine pureL (.bool true) rfl (fun _ => by kernel_rfl) ?_
  simp only [Act.put, List.setIfInBounds_toArray, List.set_cons_zero, List.set_cons_succ]
  first | show Exit.then _ _ _ _ _ | show Exit.inBlock _ _ _ _ _
  go_upto_region 2 with fail
  refine wp_region_list ?_
  refine rowKL .u8 17 (a) (w.heap.size) 0 23 _ _ rfl rfl rfl Tryd.underlying23 rfl (big_info _) (K.get _ _ _ _ (List.mem_cons_of_mem _ List.mem_cons_self)).range ?_
  simp only [Act.put, List.setIfInBounds_toArray, List.set_cons_zero, List.set_cons_succ]
  refine callL rfl (fun _ => by kernel_rfl) (ccanon_any (a) (ha) _ (hg.below K.below hg.size)) ?_
  rintro e w2 ⟨f1, rfl, s1, l⟩
  replace K := K.call l
  clear l
  refine ⟨_, rfl, ?_⟩
  simp only [Act.put, List.setIfInBounds_toArray, List.set_cons_zero, List.set_cons_succ]
  refine allocL #[.int .u8 0, .int .u8 0, .int .u8 0, .int .u8 0, .int .u8 0, .int .u8 0, .int .u8 0, .int .u8 0, .int .u8 0, .int .u8 0, .int .u8 0, .int .u8 0, .int .u8 0, .int .u8 0, .int .u8 0, .int .u8 0, .int .u8 0] 23 rfl (fun _ => by kernel_rfl) ?_
  simp only [Act.put, List.setIfInBounds_toArray, List.set_cons_zero, List.set_cons_succ]
  refine storesL .u8 17 (f1) (w2.heap.size) 23 _ _ rfl rfl rfl rfl (room_of (big_zero _ _ _ rfl).there) (big_info' _) ?_
  simp only [Act.put]
  have z1 := K.size
  replace K := K.fresh .u8 17 (f1) #[.int .u8 0, .int .u8 0, .int .u8 0, .int .u8 0, .int .u8 0, .int .u8 0, .int .u8 0, .int .u8 0, .int .u8 0, .int .u8 0, .int .u8 0, .int .u8 0, .int .u8 0, .int .u8 0, .int .u8 0, .int .u8 0, .int .u8 0] 23 (big_zero _ _ _ rfl).there
  generalize ((w2.alloc (.cells #[.int .u8 0, .int .u8 0, .int .u8 0, .int .u8 0, .int .u8 0, .int .u8 0, .int .u8 0, .int .u8 0, .int .u8 0, .int .u8 0, .int .u8 0, .int .u8 0, .int .u8 0, .int .u8 0, .int .u8 0, .int .u8 0, .int .u8 0] 23)).setCells w2.heap.size 0 (row .u8 17 (f1))) = w3 at K ⊢
  generalize w2.heap.size = B1 at *
  first | show Exit.then _ _ _ _ _ | show Exit.inBlock _ _ _ _ _
  go_upto_region 3 with fail
  refine wp_region_list ?_
  refine rowKL .u8 17 (b) (w.heap.size + 1) 0 23 _ _ rfl rfl rfl Tryd.underlying23 rfl (big_info _) (K.get _ _ _ _ (List.mem_cons_of_mem _ List.mem_cons_self)).range ?_
  simp only [Act.put, List.setIfInBounds_toArray, List.set_cons_zero, List.set_cons_succ]
  refine callL rfl (fun _ => by kernel_rfl) (ccanon_any (b) (hb) _ (hg.below K.below hg.size)) ?_
  rintro e w4 ⟨f2, rfl, s2, l⟩
  replace K := K.call l
  clear l
  refine ⟨_, rfl, ?_⟩
  simp only [Act.put, List.setIfInBounds_toArray, List.set_cons_zero, List.set_cons_succ]
  refine allocL #[.int .u8 0, .int .u8 0, .int .u8 0, .int .u8 0, .int .u8 0, .int .u8 0, .int .u8 0, .int .u8 0, .int .u8 0, .int .u8 0, .int .u8 0, .int .u8 0, .int .u8 0, .int .u8 0, .int .u8 0, .int .u8 0, .int .u8 0] 23 rfl (fun _ => by kernel_rfl) ?_
  simp only [Act.put, List.setIfInBounds_toArray, List.set_cons_zero, List.set_cons_succ]
  refine storesL .u8 17 (f2) (w4.heap.size) 23 _ _ rfl rfl rfl rfl (room_of (big_zero _ _ _ rfl).there) (big_info' _) ?_
  simp only [Act.put]
  have z2 := K.size
  replace K := K.fresh .u8 17 (f2) #[.int .u8 0, .int .u8 0, .int .u8 0, .int .u8 0, .int .u8 0, .int .u8 0, .int .u8 0, .int .u8 0, .int .u8 0, .int .u8 0, .int .u8 0, .int .u8 0, .int .u8 0, .int .u8 0, .int .u8 0, .int .u8 0, .int .u8 0] 23 (big_zero _ _ _ rfl).there
  generalize ((w4.alloc (.cells #[.int .u8 0, .int .u8 0, .int .u8 0, .int .u8 0, .int .u8 0, .int .u8 0, .int .u8 0, .int .u8 0, .int .u8 0, .int .u8 0, .int .u8 0, .int .u8 0, .int .u8 0, .int .u8 0, .int .u8 0, .int .u8 0, .int .u8 0] 23)).setCells w4.heap.size 0 (row .u8 17 (f2))) = w5 at K ⊢
  generalize w4.heap.size = B2 at *
  first | show Exit.then _ _ _ _ _ | show Exit.inBlock _ _ _ _ _
  go_upto_region 4 with fail
  refine wp_region_held_drew (S := fun w' => Kr w _ [(B2, .u8, 17, f2), (B1, .u8, 17, f1), (w.heap.size + 1, .u8, 17, b), (w.heap.size, .u8, 17, a)] [] w') (by kernel_rfl) K.drew ?_
  clear K
  intro K
  refine pureH (i := 0) (some 13) rfl (.bool true) rfl rfl (fun _ => by kernel_rfl) (by kernel_rfl) (by kernel_rfl) (by kernel_rfl) (fun _ _ _ h => h) K ?_
  simp only [Act.put, List.setIfInBounds_toArray, List.set_cons_zero, List.set_cons_succ]
  refine pureH (i := 1) (some 14) rfl (.bool true) rfl rfl (fun _ => by kernel_rfl) (by kernel_rfl) (by kernel_rfl) (by kernel_rfl) (fun _ _ _ h => h) K ?_
  simp only [Act.put, List.setIfInBounds_toArray, List.set_cons_zero, List.set_cons_succ]
  refine rowKH (i := 2) (some 15) rfl .u8 17 (a) (w.heap.size) 0 23 _ _ rfl rfl rfl rfl (by kernel_rfl) (by kernel_rfl) (by kernel_rfl) (fun _ _ _ h => h) Tryd.underlying23 rfl (big_info _) K (fun _ h => (h.get _ _ _ _ (List.mem_cons_of_mem _ (List.mem_cons_of_mem _ (List.mem_cons_of_mem _ List.mem_cons_self)))).range) ?_
  simp only [Act.put, List.setIfInBounds_toArray, List.set_cons_zero, List.set_cons_succ]
  refine rowKH (i := 3) (some 16) rfl .u8 17 (b) (w.heap.size + 1) 0 23 _ _ rfl rfl rfl rfl (by kernel_rfl) (by kernel_rfl) (by kernel_rfl) (fun _ _ _ h => h) Tryd.underlying23 rfl (big_info _) K (fun _ h => (h.get _ _ _ _ (List.mem_cons_of_mem _ (List.mem_cons_of_mem _ List.mem_cons_self))).range) ?_
  simp only [Act.put, List.setIfInBounds_toArray, List.set_cons_zero, List.set_cons_succ]
  refine rowKH (i := 5) (some 18) rfl .u8 17 (f1) (B1) 0 23 _ _ rfl rfl rfl rfl (by kernel_rfl) (by kernel_rfl) (by kernel_rfl) (fun _ _ _ h => h) Tryd.underlying23 rfl (big_info _) K (fun _ h => (h.get _ _ _ _ (List.mem_cons_of_mem _ List.mem_cons_self)).range) ?_
  simp only [Act.put, List.setIfInBounds_toArray, List.set_cons_zero, List.set_cons_succ]
  refine rowKH (i := 6) (some 19) rfl .u8 17 (f2) (B2) 0 23 _ _ rfl rfl rfl rfl (by kernel_rfl) (by kernel_rfl) (by kernel_rfl) (fun _ _ _ h => h) Tryd.underlying23 rfl (big_info _) K (fun _ h => (h.get _ _ _ _ List.mem_cons_self).range) ?_
  simp only [Act.put, List.setIfInBounds_toArray, List.set_cons_zero, List.set_cons_succ]
  refine callH (i := 4) (some 17) rfl (by kernel_rfl) rfl rfl (fun _ => by kernel_rfl) (cadd_any (a) (b) (ha) (hb) _ (hg.below K.below hg.size)) ?_
  rintro e w6 ⟨f3, rfl, s3, l⟩
  replace K := K.call l
  clear l
  refine ⟨_, rfl, K, ?_⟩
  simp only [Act.put, List.setIfInBounds_toArray, List.set_cons_zero, List.set_cons_succ]
  refine callH (i := 7) (some 20) rfl (by kernel_rfl) rfl rfl (fun _ => by kernel_rfl) (cadd_any (f1) (f2) (s1.1) (s2.1) _ (hg.below K.below hg.size)) ?_
  rintro e w7 ⟨f4, rfl, s4, l⟩
  replace K := K.call l
  clear l
  refine ⟨_, rfl, K, ?_⟩
  simp only [Act.put, List.setIfInBounds_toArray, List.set_cons_zero, List.set_cons_succ]
  refine pureH (i := 8) (some 21) rfl (.bool true) rfl rfl (fun w => eqlV 17 (f3) (f4) 23 5 _ _ _ rfl rfl rfl Tryd.underlying23 Tryd.underlying5 (fun _ => by kernel_rfl) (by kernel_rfl) (s3.1) (s4.1) true (decide_eq_true (by rw [s3.2, s4.2, s1.2, s2.2, Int.emod_add_emod, Int.add_emod_emod])) w) (by kernel_rfl) (by kernel_rfl) (by kernel_rfl) (fun _ _ _ h => h) K ?_
  simp only [Act.put, List.setIfInBounds_toArray, List.set_cons_zero, List.set_cons_succ]
  refine pureH (i := 9) (some 22) rfl (.bool true) rfl rfl (fun _ => by kernel_rfl) (by kernel_rfl) (by kernel_rfl) (by kernel_rfl) (fun _ _ _ h => h) K ?_
  simp only [Act.put, List.setIfInBounds_toArray, List.set_cons_zero, List.set_cons_succ]
  refine pureH (i := 10) (some 23) rfl (.bool true) rfl rfl (fun _ => by kernel_rfl) (by kernel_rfl) (by kernel_rfl) (by kernel_rfl) (fun _ _ _ h => h) K ?_
  simp only [Act.put, List.setIfInBounds_toArray, List.set_cons_zero, List.set_cons_succ]
  refine rowKH (i := 11) (some 24) rfl .u8 17 (a) (w.heap.size) 0 23 _ _ rfl rfl rfl rfl (by kernel_rfl) (by kernel_rfl) (by kernel_rfl) (fun _ _ _ h => h) Tryd.underlying23 rfl (big_info _) K (fun _ h => (h.get _ _ _ _ (List.mem_cons_of_mem _ (List.mem_cons_of_mem _ (List.mem_cons_of_mem _ List.mem_cons_self)))).range) ?_
  simp only [Act.put, List.setIfInBounds_toArray, List.set_cons_zero, List.set_cons_succ]
  refine rowKH (i := 12) (some 25) rfl .u8 17 (b) (w.heap.size + 1) 0 23 _ _ rfl rfl rfl rfl (by kernel_rfl) (by kernel_rfl) (by kernel_rfl) (fun _ _ _ h => h) Tryd.underlying23 rfl (big_info _) K (fun _ h => (h.get _ _ _ _ (List.mem_cons_of_mem _ (List.mem_cons_of_mem _ List.mem_cons_self))).range) ?_
  simp only [Act.put, List.setIfInBounds_toArray, List.set_cons_zero, List.set_cons_succ]
  refine rowKH (i := 14) (some 27) rfl .u8 17 (f1) (B1) 0 23 _ _ rfl rfl rfl rfl (by kernel_rfl) (by kernel_rfl) (by kernel_rfl) (fun _ _ _ h => h) Tryd.underlying23 rfl (big_info _) K (fun _ h => (h.get _ _ _ _ (List.mem_cons_of_mem _ List.mem_cons_self)).range) ?_
  simp only [Act.put, List.setIfInBounds_toArray, List.set_cons_zero, List.set_cons_succ]
  refine rowKH (i := 15) (some 28) rfl .u8 17 (f2) (B2) 0 23 _ _ rfl rfl rfl rfl (by kernel_rfl) (by kernel_rfl) (by kernel_rfl) (fun _ _ _ h => h) Tryd.underlying23 rfl (big_info _) K (fun _ h => (h.get _ _ _ _ List.mem_cons_self).range) ?_
  simp only [Act.put, List.setIfInBounds_toArray, List.set_cons_zero, List.set_cons_succ]
  refine callH (i := 13) (some 26) rfl (by kernel_rfl) rfl rfl (fun _ => by kernel_rfl) (cmul_any (a) (b) (ha) (hb) _ (hg.below K.below hg.size)) ?_
  rintro e w8 ⟨f5, rfl, s5, l⟩
  replace K := K.call l
  clear l
  refine ⟨_, rfl, K, ?_⟩
  simp only [Act.put, List.setIfInBounds_toArray, List.set_cons_zero, List.set_cons_succ]
  refine callH (i := 16) (some 29) rfl (by kernel_rfl) rfl rfl (fun _ => by kernel_rfl) (cmul_any (f1) (f2) (s1.1) (s2.1) _ (hg.below K.below hg.size)) ?_
  rintro e w9 ⟨f6, rfl, s6, l⟩
  replace K := K.call l
  clear l
  refine ⟨_, rfl, K, ?_⟩
  simp only [Act.put, List.setIfInBounds_toArray, List.set_cons_zero, List.set_cons_succ]
  refine pureH (i := 17) (some 30) rfl (.bool true) rfl rfl (fun w => eqlV 17 (f5) (f6) 23 5 _ _ _ rfl rfl rfl Tryd.underlying23 Tryd.underlying5 (fun _ => by kernel_rfl) (by kernel_rfl) (s5.1) (s6.1) true (decide_eq_true (by rw [s5.2, s6.2, s1.2, s2.2, mmod])) w) (by kernel_rfl) (by kernel_rfl) (by kernel_rfl) (fun _ _ _ h => h) K ?_
  simp only [Act.put, List.setIfInBounds_toArray, List.set_cons_zero, List.set_cons_succ]
  refine pureH (i := 18) (some 31) rfl (.bool true) rfl rfl (fun _ => by kernel_rfl) (by kernel_rfl) (by kernel_rfl) (by kernel_rfl) (fun _ _ _ h => h) K ?_
  simp only [Act.put, List.setIfInBounds_toArray, List.set_cons_zero, List.set_cons_succ]
  refine pureH (i := 19) (some 4) rfl (.bool true) rfl rfl (fun _ => by kernel_rfl) (by kernel_rfl) (by kernel_rfl) (by kernel_rfl) (fun _ _ _ h => h) K ?_
  simp only [Act.put, List.setIfInBounds_toArray, List.set_cons_zero, List.set_cons_succ]
  refine wpAnyH_done (by kernel_rfl) ?_ _
  go_wp2
  go_ret
  exact ⟨rfl, K.below⟩

end Go.Proofs.YthpcbijeahcpmabDoor
