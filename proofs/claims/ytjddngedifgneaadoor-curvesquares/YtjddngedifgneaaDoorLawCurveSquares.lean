/- What the statement's function answers, whatever the bytes: true. -/
import Derived.Test.YtjddngedifgneaaDoorShown
import Derived.Test.YtjddngedifgneaaDoorMath
import Derived.Test.YtjddngedifgneaaDoorRefMul
import Derived.Test.YtjddngedifgneaaDoorSquare
import Derived.Deep.Cut
namespace Go.Proofs.YtjddngedifgneaaDoor
open Go.RowKit

set_option maxRecDepth 10000 in
set_option maxHeartbeats 4000000 in
theorem law_CurveSquares (a : Nat → Int) (ha : In 256 32 a) (w : World) (hg : Glob w) :
    Calls Tryd.prog 7 #[(.agg (row .u8 32 (a)).toArray)] w fun e w' => e = .returned (.bool true) ∧ Below w.heap.size w w' := by
  have K := Kp.init w
  have K := K.box a 23 (w.heap.size) rfl
  go_enter Tryd.func7, Tryd.ntmps7
  go_upto_region 1 with fail
  refine wp_region_list ?_
  refine callL rfl (fun _ => by kernel_rfl) (shown_any _ (hg.below K.below hg.size)) ?_
  rintro e w1 ⟨rfl, l⟩
  have K := K.call l
  clear l
  refine ⟨_, rfl, ?_⟩
  simp only [Act.put, List.setIfInBounds_toArray, List.set_cons_zero, List.set_cons_succ]
  refine pureL (.bool true) rfl (fun _ => by kernel_rfl) ?_
  simp only [Act.put, List.setIfInBounds_toArray, List.set_cons_zero, List.set_cons_succ]
  show Exit.then _ _ _ _ _
  go_upto_region 2 with fail
  refine wp_region_held_drew (S := fun w' => Kp w ([(w.heap.size, a)]) w') (by kernel_rfl) K.drew ?_
  intro K
  refine pureH (i := 0) (some 5) rfl (.bool true) rfl rfl (fun _ => by kernel_rfl) (by kernel_rfl) (by kernel_rfl) (by kernel_rfl) (fun _ _ _ h => h) K ?_
  simp only [Act.put, List.setIfInBounds_toArray, List.set_cons_zero, List.set_cons_succ]
  refine pureH (i := 1) (some 6) rfl (.bool true) rfl rfl (fun _ => by kernel_rfl) (by kernel_rfl) (by kernel_rfl) (by kernel_rfl) (fun _ _ _ h => h) K ?_
  simp only [Act.put, List.setIfInBounds_toArray, List.set_cons_zero, List.set_cons_succ]
  refine rowH (i := 2) (some 7) rfl .u8 32 (a) (w.heap.size) 23 _ _ rfl rfl rfl rfl (by kernel_rfl) (by kernel_rfl) (by kernel_rfl) (fun _ _ _ h => h) Tryd.underlying23 rfl (key_info _) K (fun _ h => h.get _ _ List.mem_cons_self) ?_
  simp only [Act.put, List.setIfInBounds_toArray, List.set_cons_zero, List.set_cons_succ]
  refine rowH (i := 4) (some 9) rfl .u8 32 (a) (w.heap.size) 23 _ _ rfl rfl rfl rfl (by kernel_rfl) (by kernel_rfl) (by kernel_rfl) (fun _ _ _ h => h) Tryd.underlying23 rfl (key_info _) K (fun _ h => h.get _ _ List.mem_cons_self) ?_
  simp only [Act.put, List.setIfInBounds_toArray, List.set_cons_zero, List.set_cons_succ]
  refine rowH (i := 5) (some 10) rfl .u8 32 (a) (w.heap.size) 23 _ _ rfl rfl rfl rfl (by kernel_rfl) (by kernel_rfl) (by kernel_rfl) (fun _ _ _ h => h) Tryd.underlying23 rfl (key_info _) K (fun _ h => h.get _ _ List.mem_cons_self) ?_
  simp only [Act.put, List.setIfInBounds_toArray, List.set_cons_zero, List.set_cons_succ]
  refine callH (i := 3) (some 8) rfl (by kernel_rfl) rfl rfl (fun _ => by kernel_rfl) (square_any (a) (ha) _ (hg.below K.below hg.size)) ?_
  rintro e w2 ⟨f1, rfl, s1, l⟩
  have K := K.call l
  clear l
  refine ⟨_, rfl, K, ?_⟩
  simp only [Act.put, List.setIfInBounds_toArray, List.set_cons_zero, List.set_cons_succ]
  refine callH (i := 6) (some 11) rfl (by kernel_rfl) rfl rfl (fun _ => by kernel_rfl) (refMul_any (a) (a) (ha) (ha) _) ?_
  rintro e w3 ⟨f2, rfl, s2, l⟩
  have K := K.call l
  clear l
  refine ⟨_, rfl, K, ?_⟩
  simp only [Act.put, List.setIfInBounds_toArray, List.set_cons_zero, List.set_cons_succ]
  refine pureH (i := 7) (some 12) rfl (.bool true) rfl rfl (fun w => eqlV 32 (f1) (f2) 23 5 _ _ _ rfl rfl rfl Tryd.underlying23 Tryd.underlying5 (fun _ => by kernel_rfl) (by kernel_rfl) (s1.1) (s2.1) true (decide_eq_true (by rw [s1.2, s2.2])) w) (by kernel_rfl) (by kernel_rfl) (by kernel_rfl) (fun _ _ _ h => h) K ?_
  simp only [Act.put, List.setIfInBounds_toArray, List.set_cons_zero, List.set_cons_succ]
  refine pureH (i := 8) (some 13) rfl (.bool true) rfl rfl (fun _ => by kernel_rfl) (by kernel_rfl) (by kernel_rfl) (by kernel_rfl) (fun _ _ _ h => h) K ?_
  simp only [Act.put, List.setIfInBounds_toArray, List.set_cons_zero, List.set_cons_succ]
  refine pureH (i := 9) (some 14) rfl (.bool true) rfl rfl (fun _ => by kernel_rfl) (by kernel_rfl) (by kernel_rfl) (by kernel_rfl) (fun _ _ _ h => h) K ?_
  simp only [Act.put, List.setIfInBounds_toArray, List.set_cons_zero, List.set_cons_succ]
  refine rowH (i := 10) (some 15) rfl .u8 32 (a) (w.heap.size) 23 _ _ rfl rfl rfl rfl (by kernel_rfl) (by kernel_rfl) (by kernel_rfl) (fun _ _ _ h => h) Tryd.underlying23 rfl (key_info _) K (fun _ h => h.get _ _ List.mem_cons_self) ?_
  simp only [Act.put, List.setIfInBounds_toArray, List.set_cons_zero, List.set_cons_succ]
  refine rowH (i := 12) (some 17) rfl .u8 32 (a) (w.heap.size) 23 _ _ rfl rfl rfl rfl (by kernel_rfl) (by kernel_rfl) (by kernel_rfl) (fun _ _ _ h => h) Tryd.underlying23 rfl (key_info _) K (fun _ h => h.get _ _ List.mem_cons_self) ?_
  simp only [Act.put, List.setIfInBounds_toArray, List.set_cons_zero, List.set_cons_succ]
  refine rowH (i := 13) (some 18) rfl .u8 32 (a) (w.heap.size) 23 _ _ rfl rfl rfl rfl (by kernel_rfl) (by kernel_rfl) (by kernel_rfl) (fun _ _ _ h => h) Tryd.underlying23 rfl (key_info _) K (fun _ h => h.get _ _ List.mem_cons_self) ?_
  simp only [Act.put, List.setIfInBounds_toArray, List.set_cons_zero, List.set_cons_succ]
  refine callH (i := 11) (some 16) rfl (by kernel_rfl) rfl rfl (fun _ => by kernel_rfl) (square_any (a) (ha) _ (hg.below K.below hg.size)) ?_
  rintro e w4 ⟨f3, rfl, s3, l⟩
  have K := K.call l
  clear l
  refine ⟨_, rfl, K, ?_⟩
  simp only [Act.put, List.setIfInBounds_toArray, List.set_cons_zero, List.set_cons_succ]
  refine callH (i := 14) (some 19) rfl (by kernel_rfl) rfl rfl (fun _ => by kernel_rfl) (mul_any (a) (a) (ha) (ha) _ (hg.below K.below hg.size)) ?_
  rintro e w5 ⟨f4, rfl, s4, l⟩
  have K := K.call l
  clear l
  refine ⟨_, rfl, K, ?_⟩
  simp only [Act.put, List.setIfInBounds_toArray, List.set_cons_zero, List.set_cons_succ]
  refine pureH (i := 15) (some 20) rfl (.bool true) rfl rfl (fun w => eqlV 32 (f3) (f4) 23 5 _ _ _ rfl rfl rfl Tryd.underlying23 Tryd.underlying5 (fun _ => by kernel_rfl) (by kernel_rfl) (s3.1) (s4.1) true (decide_eq_true (by rw [s3.2, s4.2])) w) (by kernel_rfl) (by kernel_rfl) (by kernel_rfl) (fun _ _ _ h => h) K ?_
  simp only [Act.put, List.setIfInBounds_toArray, List.set_cons_zero, List.set_cons_succ]
  refine pureH (i := 16) (some 21) rfl (.bool true) rfl rfl (fun _ => by kernel_rfl) (by kernel_rfl) (by kernel_rfl) (by kernel_rfl) (fun _ _ _ h => h) K ?_
  simp only [Act.put, List.setIfInBounds_toArray, List.set_cons_zero, List.set_cons_succ]
  refine pureH (i := 17) (some 2) rfl (.bool true) rfl rfl (fun _ => by kernel_rfl) (by kernel_rfl) (by kernel_rfl) (by kernel_rfl) (fun _ _ _ h => h) K ?_
  simp only [Act.put, List.setIfInBounds_toArray, List.set_cons_zero, List.set_cons_succ]
  refine wpAnyH_done (by kernel_rfl) ?_ _
  go_wp2
  go_ret
  exact ⟨rfl, K.below⟩

end Go.Proofs.YtjddngedifgneaaDoor
