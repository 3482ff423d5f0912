/- The walk of ChachaBlocks. -/
import Derived.Test.YtldebgblkaaojaaDoorHv
import Derived.Test.YtldebgblkaaojaaDoorLw
import Derived.Test.YtldebgblkaaojaaDoorHs
namespace Go.Proofs.YtldebgblkaaojaaDoor
open Go.RowKit

set_option maxRecDepth 10000 in
set_option maxHeartbeats 4000000 in
theorem law_ChachaBlocks (k : Nat → Int) (c : Int) (n : Nat → Int) (hk : In 256 32 k) (hn : In 256 12 n) (w : World) (hg : HGlob w) :
    Calls Tryd.prog 4 #[(.agg (row .u8 32 (k)).toArray), .int .u32 c, (.agg (row .u8 12 (n)).toArray)] w fun e w' => e = .returned (.bool true) ∧ Below w.heap.size w w' := by
  have K := (Kr.init w).box .u8 32 k 28 w.heap.size rfl
  replace K := K.box .u8 12 n 30 (w.heap.size + 1) (by simp)
  go_enter Tryd.func4, Tryd.ntmps4
  go_upto_region 1 with fail
  generalize ((w.alloc (.cells (row .u8 32 k).toArray 28)).alloc (.cells (row .u8 12 n).toArray 30)) = w0 at K ⊢
  refine wp_region_list ?_
  refine callL rfl (fun _ => by kernel_rfl) (hshown_any _ (hg.below K.below hg.size)) ?_
  rintro e w1 ⟨rfl, l⟩
  replace K := K.call l
  clear l
  refine ⟨_, rfl, ?_⟩
  simp only [Act.put, List.setIfInBounds_toArray, List.set_cons_zero, List.set_cons_succ]
  refine pureL (.bool true) rfl (fun _ => by kernel_rfl) ?_
  simp only [Act.put, List.setIfInBounds_toArray, List.set_cons_zero, List.set_cons_succ]
  show Exit.then _ _ _ _ _
  go_upto_region 2 with fail
  refine wp_region_held_drew (S := fun w' => Kr w (w.heap.size + 1 + 1) [(w.heap.size + 1, .u8, 12, n), (w.heap.size, .u8, 32, k)] [] w') (by kernel_rfl) K.drew ?_
  clear K
  intro K
  refine pureH (i := 0) (some 9) rfl (.bool true) rfl rfl (fun _ => by kernel_rfl) (by kernel_rfl) (by kernel_rfl) (by kernel_rfl) (fun _ _ _ h => h) K ?_
  simp only [Act.put, List.setIfInBounds_toArray, List.set_cons_zero, List.set_cons_succ]
  refine pureH (i := 1) (some 10) rfl (.bool true) rfl rfl (fun _ => by kernel_rfl) (by kernel_rfl) (by kernel_rfl) (by kernel_rfl) (fun _ _ _ h => h) K ?_
  simp only [Act.put, List.setIfInBounds_toArray, List.set_cons_zero, List.set_cons_succ]
  refine rowKH (i := 2) (some 11) rfl .u8 32 (k) (w.heap.size) 0 28 _ _ rfl rfl rfl rfl (by kernel_rfl) (by kernel_rfl) (by kernel_rfl) (fun _ _ _ h => h) Tryd.underlying28 rfl (key_info _) K (fun _ h => (h.get _ _ _ _ (List.mem_cons_of_mem _ List.mem_cons_self)).range) ?_
  simp only [Act.put, List.setIfInBounds_toArray, List.set_cons_zero, List.set_cons_succ]
  refine pureH (i := 3) (some 12) rfl (.int .u32 c) rfl rfl (fun _ => by kernel_rfl) (by kernel_rfl) (by kernel_rfl) (by kernel_rfl) (fun _ _ _ h => h) K ?_
  simp only [Act.put, List.setIfInBounds_toArray, List.set_cons_zero, List.set_cons_succ]
  refine rowKH (i := 4) (some 13) rfl .u8 12 (n) (w.heap.size + 1) 0 30 _ _ rfl rfl rfl rfl (by kernel_rfl) (by kernel_rfl) (by kernel_rfl) (fun _ _ _ h => h) Tryd.underlying30 rfl (hn_info _) K (fun _ h => (h.get _ _ _ _ List.mem_cons_self).range) ?_
  simp only [Act.put, List.setIfInBounds_toArray, List.set_cons_zero, List.set_cons_succ]
  refine rowKH (i := 6) (some 15) rfl .u8 32 (k) (w.heap.size) 0 28 _ _ rfl rfl rfl rfl (by kernel_rfl) (by kernel_rfl) (by kernel_rfl) (fun _ _ _ h => h) Tryd.underlying28 rfl (key_info _) K (fun _ h => (h.get _ _ _ _ (List.mem_cons_of_mem _ List.mem_cons_self)).range) ?_
  simp only [Act.put, List.setIfInBounds_toArray, List.set_cons_zero, List.set_cons_succ]
  refine pureH (i := 7) (some 16) rfl (.int .u32 c) rfl rfl (fun _ => by kernel_rfl) (by kernel_rfl) (by kernel_rfl) (by kernel_rfl) (fun _ _ _ h => h) K ?_
  simp only [Act.put, List.setIfInBounds_toArray, List.set_cons_zero, List.set_cons_succ]
  refine rowKH (i := 8) (some 17) rfl .u8 12 (n) (w.heap.size + 1) 0 30 _ _ rfl rfl rfl rfl (by kernel_rfl) (by kernel_rfl) (by kernel_rfl) (fun _ _ _ h => h) Tryd.underlying30 rfl (hn_info _) K (fun _ h => (h.get _ _ _ _ List.mem_cons_self).range) ?_
  simp only [Act.put, List.setIfInBounds_toArray, List.set_cons_zero, List.set_cons_succ]
  refine callH (i := 5) (some 14) rfl (by kernel_rfl) rfl rfl (fun _ => by kernel_rfl) (hblock_any k c n hk hn _ (hg.below K.below hg.size)) ?_
  rintro e w105 ⟨rfl, l⟩
  replace K := K.call l
  clear l
  refine ⟨_, rfl, K, ?_⟩
  simp only [Act.put, List.setIfInBounds_toArray, List.set_cons_zero, List.set_cons_succ]
  refine callH (i := 9) (some 18) rfl (by kernel_rfl) rfl rfl (fun _ => by kernel_rfl) (refBlock_any k c n hk hn _) ?_
  rintro e w109 ⟨rfl, l⟩
  replace K := K.call l
  clear l
  refine ⟨_, rfl, K, ?_⟩
  simp only [Act.put, List.setIfInBounds_toArray, List.set_cons_zero, List.set_cons_succ]
  refine pureH (i := 10) (some 19) rfl (.bool true) rfl rfl (fun w => eqlRow 64 .u8 _ _ 31 5 _ _ _ rfl rfl rfl Tryd.underlying31 Tryd.underlying5 (fun _ => by kernel_rfl) (by kernel_rfl) (fun _ _ => rfl) w) (by kernel_rfl) (by kernel_rfl) (by kernel_rfl) (fun _ _ _ h => h) K ?_
  simp only [Act.put, List.setIfInBounds_toArray, List.set_cons_zero, List.set_cons_succ]
  refine pureH (i := 11) (some 20) rfl (.bool true) rfl rfl (fun _ => by kernel_rfl) (by kernel_rfl) (by kernel_rfl) (by kernel_rfl) (fun _ _ _ h => h) K ?_
  simp only [Act.put, List.setIfInBounds_toArray, List.set_cons_zero, List.set_cons_succ]
  refine pureH (i := 12) (some 6) rfl (.bool true) rfl rfl (fun _ => by kernel_rfl) (by kernel_rfl) (by kernel_rfl) (by kernel_rfl) (fun _ _ _ h => h) K ?_
  simp only [Act.put, List.setIfInBounds_toArray, List.set_cons_zero, List.set_cons_succ]
  refine wpAnyH_done (by kernel_rfl) ?_ _
  have hB := K.below
  clear K
  go_wp2
  go_ret
  exact ⟨rfl, hB⟩
end Go.Proofs.YtldebgblkaaojaaDoor
