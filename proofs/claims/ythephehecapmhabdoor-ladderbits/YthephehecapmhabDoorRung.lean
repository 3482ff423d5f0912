/- What the inner functions of the ladder answer: two fractions, exchanged, or a rung up. -/
import Derived.Test.YthephehecapmhabDoorKq
import Derived.Test.YthephehecapmhabDoorPick
import Derived.Deep.Cut
namespace Go.Proofs.YthephehecapmhabDoor
open Go.RowKit

/-- Three bytes. -/
def tri (x y z : Int) : Nat → Int
  | 0 => x
  | 1 => y
  | 2 => z
  | _ + 3 => 0
theorem tri_in : In 256 32 (tri 65 219 1)
  | 0, _ => by decide
  | 1, _ => by decide
  | 2, _ => by decide
  | _ + 3, _ => ⟨Int.le_refl 0, (by decide : (0 : Int) < 256)⟩
theorem tri_kz : kz (tri 65 219 1) = cz := by unfold kz cz; rw [show val 256 (tri 65 219 1) 32 = 121665 by decide +kernel]
/-- Two fractions, in numbers modulo 2^255 - 19. -/
def stz (a b c d : Nat → Int) : Ed.St QN := ⟨kz a, kz b, kz c, kz d⟩

set_option maxRecDepth 10000 in
set_option maxHeartbeats 4000000 in
theorem bent_any (e : Nat → Int) (he : In 256 32 e) (w : World) (hg : Glob w) : Calls Tryd.prog 23 #[(.agg (row .u8 32 (e)).toArray)] w (Ans (cz * kz e) w) := by
  have K := Kq.init w
  have K := K.box 32 (e) 23 (w.heap.size) rfl
  have K := K.make 32 #[.int .u8 0, .int .u8 0, .int .u8 0, .int .u8 0, .int .u8 0, .int .u8 0, .int .u8 0, .int .u8 0, .int .u8 0, .int .u8 0, .int .u8 0, .int .u8 0, .int .u8 0, .int .u8 0, .int .u8 0, .int .u8 0, .int .u8 0, .int .u8 0, .int .u8 0, .int .u8 0, .int .u8 0, .int .u8 0, .int .u8 0, .int .u8 0, .int .u8 0, .int .u8 0, .int .u8 0, .int .u8 0, .int .u8 0, .int .u8 0, .int .u8 0, .int .u8 0] 23 (w.heap.size + 1) (by simp) (key_zero _ _ _ (by simp)).there
  go_enter Tryd.func23, Tryd.ntmps23
  go_upto_region 1 with fail
  refine wp_region_list ?_
  refine pureL (.agg (row .u8 32 (tri 65 219 1)).toArray) rfl (fun _ => by kernel_rfl) ?_
  simp only [Act.put, List.setIfInBounds_toArray, List.set_cons_zero, List.set_cons_succ]
  refine rowAtL 32 (e) (w.heap.size) 0 23 _ _ rfl rfl rfl Tryd.underlying23 rfl (key_info _) (K.whole _ _ List.mem_cons_self) ?_
  simp only [Act.put, List.setIfInBounds_toArray, List.set_cons_zero, List.set_cons_succ]
  refine callL rfl (fun _ => by kernel_rfl) (mulz (tri 65 219 1) (e) (tri_in) (he) _ (hg.below K.below hg.size)) ?_
  rintro e w1 ⟨f1, rfl, s1, l⟩
  have K := K.call l
  clear l
  refine ⟨_, rfl, ?_⟩
  simp only [Act.put, List.setIfInBounds_toArray, List.set_cons_zero, List.set_cons_succ]
  refine storesL .u8 32 (f1) (w.heap.size + 1) 23 _ _ rfl rfl rfl rfl (K.roomy _ _ _ List.mem_cons_self) (key_info' _) ?_
  simp only [Act.put]
  show Exit.then _ _ _ _ _
  have hO := (K.room _ List.mem_cons_self).1
  have hL := (K.fill _ _ List.mem_cons_self (row .u8 32 (f1))).below
  clear K
  go_wp2
  exact bodyPost_ret (v := .agg (row .u8 32 (f1)).toArray) (results_row Tryd.results23 rfl (Has.all hO .u8 (f1)).range Tryd.underlying23 rfl (key_info _)) rfl ⟨f1, rfl, ⟨s1.1, by rw [s1.2, tri_kz]⟩, hL⟩

set_option maxRecDepth 10000 in
set_option maxHeartbeats 4000000 in
theorem start_any (u : Nat → Int) (w : World) : Calls Tryd.prog 12 #[(.agg (row .u8 32 (u)).toArray)] w fun e w' => e = .returned (.agg (row .u8 128 (glue (one 1) (one 0) (u) (one 1))).toArray) ∧ Below w.heap.size w w' := by
  have K := Kq.init w
  have K := K.box 32 (u) 23 (w.heap.size) rfl
  have K := K.make 128 #[.int .u8 0, .int .u8 0, .int .u8 0, .int .u8 0, .int .u8 0, .int .u8 0, .int .u8 0, .int .u8 0, .int .u8 0, .int .u8 0, .int .u8 0, .int .u8 0, .int .u8 0, .int .u8 0, .int .u8 0, .int .u8 0, .int .u8 0, .int .u8 0, .int .u8 0, .int .u8 0, .int .u8 0, .int .u8 0, .int .u8 0, .int .u8 0, .int .u8 0, .int .u8 0, .int .u8 0, .int .u8 0, .int .u8 0, .int .u8 0, .int .u8 0, .int .u8 0, .int .u8 0, .int .u8 0, .int .u8 0, .int .u8 0, .int .u8 0, .int .u8 0, .int .u8 0, .int .u8 0, .int .u8 0, .int .u8 0, .int .u8 0, .int .u8 0, .int .u8 0, .int .u8 0, .int .u8 0, .int .u8 0, .int .u8 0, .int .u8 0, .int .u8 0, .int .u8 0, .int .u8 0, .int .u8 0, .int .u8 0, .int .u8 0, .int .u8 0, .int .u8 0, .int .u8 0, .int .u8 0, .int .u8 0, .int .u8 0, .int .u8 0, .int .u8 0, .int .u8 0, .int .u8 0, .int .u8 0, .int .u8 0, .int .u8 0, .int .u8 0, .int .u8 0, .int .u8 0, .int .u8 0, .int .u8 0, .int .u8 0, .int .u8 0, .int .u8 0, .int .u8 0, .int .u8 0, .int .u8 0, .int .u8 0, .int .u8 0, .int .u8 0, .int .u8 0, .int .u8 0, .int .u8 0, .int .u8 0, .int .u8 0, .int .u8 0, .int .u8 0, .int .u8 0, .int .u8 0, .int .u8 0, .int .u8 0, .int .u8 0, .int .u8 0, .int .u8 0, .int .u8 0, .int .u8 0, .int .u8 0, .int .u8 0, .int .u8 0, .int .u8 0, .int .u8 0, .int .u8 0, .int .u8 0, .int .u8 0, .int .u8 0, .int .u8 0, .int .u8 0, .int .u8 0, .int .u8 0, .int .u8 0, .int .u8 0, .int .u8 0, .int .u8 0, .int .u8 0, .int .u8 0, .int .u8 0, .int .u8 0, .int .u8 0, .int .u8 0, .int .u8 0, .int .u8 0, .int .u8 0, .int .u8 0, .int .u8 0, .int .u8 0] 33 (w.heap.size + 1) (by simp) (rung_zero _ _ _ (by simp)).there
  go_enter Tryd.func12, Tryd.ntmps12
  go_upto_region 0 with fail
  refine wp_region_list ?_
  refine allocL (row .u8 32 (u)).toArray 23 rfl (fun _ => by kernel_rfl) ?_
  simp only [Act.put, List.setIfInBounds_toArray, List.set_cons_zero, List.set_cons_succ]
  refine allocL #[.int .u8 0, .int .u8 0, .int .u8 0, .int .u8 0, .int .u8 0, .int .u8 0, .int .u8 0, .int .u8 0, .int .u8 0, .int .u8 0, .int .u8 0, .int .u8 0, .int .u8 0, .int .u8 0, .int .u8 0, .int .u8 0, .int .u8 0, .int .u8 0, .int .u8 0, .int .u8 0, .int .u8 0, .int .u8 0, .int .u8 0, .int .u8 0, .int .u8 0, .int .u8 0, .int .u8 0, .int .u8 0, .int .u8 0, .int .u8 0, .int .u8 0, .int .u8 0, .int .u8 0, .int .u8 0, .int .u8 0, .int .u8 0, .int .u8 0, .int .u8 0, .int .u8 0, .int .u8 0, .int .u8 0, .int .u8 0, .int .u8 0, .int .u8 0, .int .u8 0, .int .u8 0, .int .u8 0, .int .u8 0, .int .u8 0, .int .u8 0, .int .u8 0, .int .u8 0, .int .u8 0, .int .u8 0, .int .u8 0, .int .u8 0, .int .u8 0, .int .u8 0, .int .u8 0, .int .u8 0, .int .u8 0, .int .u8 0, .int .u8 0, .int .u8 0, .int .u8 0, .int .u8 0, .int .u8 0, .int .u8 0, .int .u8 0, .int .u8 0, .int .u8 0, .int .u8 0, .int .u8 0, .int .u8 0, .int .u8 0, .int .u8 0, .int .u8 0, .int .u8 0, .int .u8 0, .int .u8 0, .int .u8 0, .int .u8 0, .int .u8 0, .int .u8 0, .int .u8 0, .int .u8 0, .int .u8 0, .int .u8 0, .int .u8 0, .int .u8 0, .int .u8 0, .int .u8 0, .int .u8 0, .int .u8 0, .int .u8 0, .int .u8 0, .int .u8 0, .int .u8 0, .int .u8 0, .int .u8 0, .int .u8 0, .int .u8 0, .int .u8 0, .int .u8 0, .int .u8 0, .int .u8 0, .int .u8 0, .int .u8 0, .int .u8 0, .int .u8 0, .int .u8 0, .int .u8 0, .int .u8 0, .int .u8 0, .int .u8 0, .int .u8 0, .int .u8 0, .int .u8 0, .int .u8 0, .int .u8 0, .int .u8 0, .int .u8 0, .int .u8 0, .int .u8 0, .int .u8 0, .int .u8 0, .int .u8 0, .int .u8 0] 33 rfl (fun _ => by kernel_rfl) ?_
  simp only [Act.put, List.setIfInBounds_toArray, List.set_cons_zero, List.set_cons_succ]
  simp only [size_new]
  show Exit.then _ _ _ _ _
  go_upto_region 1 with fail
  refine wp_region_list ?_
  refine pureL (.agg (row .u8 32 (one 1)).toArray) rfl (fun _ => by kernel_rfl) ?_
  simp only [Act.put, List.setIfInBounds_toArray, List.set_cons_zero, List.set_cons_succ]
  refine rowAtL 32 (u) (w.heap.size) 0 23 _ _ rfl rfl rfl Tryd.underlying23 rfl (key_info _) (K.whole _ _ List.mem_cons_self) ?_
  simp only [Act.put, List.setIfInBounds_toArray, List.set_cons_zero, List.set_cons_succ]
  refine pureL (.agg (row .u8 32 (one 1)).toArray) rfl (fun _ => by kernel_rfl) ?_
  simp only [Act.put, List.setIfInBounds_toArray, List.set_cons_zero, List.set_cons_succ]
  refine pureL (.agg (row .u8 128 (glue (one 1) (one 0) (u) (one 1))).toArray) rfl (fun _ => by kernel_rfl) ?_
  simp only [Act.put, List.setIfInBounds_toArray, List.set_cons_zero, List.set_cons_succ]
  refine storesL .u8 128 (glue (one 1) (one 0) (u) (one 1)) (w.heap.size + 1) 33 _ _ rfl rfl rfl rfl (K.roomy _ _ _ List.mem_cons_self) (rung_info' _) ?_
  simp only [Act.put]
  show Exit.then _ _ _ _ _
  have hO := (K.room _ List.mem_cons_self).1
  have hL := (K.fill _ _ List.mem_cons_self (row .u8 128 (glue (one 1) (one 0) (u) (one 1)))).below
  clear K
  go_wp2
  exact bodyPost_ret (v := .agg (row .u8 128 (glue (one 1) (one 0) (u) (one 1))).toArray) (results_row Tryd.results12 rfl (Has.all hO .u8 (glue (one 1) (one 0) (u) (one 1))).range Tryd.underlying33 rfl (rung_info _)) rfl ⟨rfl, hL⟩

set_option maxRecDepth 10000 in
set_option maxHeartbeats 4000000 in
theorem exchange_any (bit : Int) (hbit : 0 ≤ bit ∧ bit < 256) (a b c d : Nat → Int) (ha : In 256 32 a) (hb : In 256 32 b) (hc : In 256 32 c) (hd : In 256 32 d) (w : World) : Calls Tryd.prog 13 #[.int .u8 bit, .agg (row .u8 128 (glue (a) (b) (c) (d))).toArray] w fun e w' => e = .returned (.agg (row .u8 128 (glue (sel bit a c) (sel bit b d) (sel bit c a) (sel bit d b))).toArray) ∧ Below w.heap.size w w' := by
  have K := Kq.init w
  have K := K.box 128 (glue (a) (b) (c) (d)) 33 (w.heap.size) rfl
  have K := K.make 128 #[.int .u8 0, .int .u8 0, .int .u8 0, .int .u8 0, .int .u8 0, .int .u8 0, .int .u8 0, .int .u8 0, .int .u8 0, .int .u8 0, .int .u8 0, .int .u8 0, .int .u8 0, .int .u8 0, .int .u8 0, .int .u8 0, .int .u8 0, .int .u8 0, .int .u8 0, .int .u8 0, .int .u8 0, .int .u8 0, .int .u8 0, .int .u8 0, .int .u8 0, .int .u8 0, .int .u8 0, .int .u8 0, .int .u8 0, .int .u8 0, .int .u8 0, .int .u8 0, .int .u8 0, .int .u8 0, .int .u8 0, .int .u8 0, .int .u8 0, .int .u8 0, .int .u8 0, .int .u8 0, .int .u8 0, .int .u8 0, .int .u8 0, .int .u8 0, .int .u8 0, .int .u8 0, .int .u8 0, .int .u8 0, .int .u8 0, .int .u8 0, .int .u8 0, .int .u8 0, .int .u8 0, .int .u8 0, .int .u8 0, .int .u8 0, .int .u8 0, .int .u8 0, .int .u8 0, .int .u8 0, .int .u8 0, .int .u8 0, .int .u8 0, .int .u8 0, .int .u8 0, .int .u8 0, .int .u8 0, .int .u8 0, .int .u8 0, .int .u8 0, .int .u8 0, .int .u8 0, .int .u8 0, .int .u8 0, .int .u8 0, .int .u8 0, .int .u8 0, .int .u8 0, .int .u8 0, .int .u8 0, .int .u8 0, .int .u8 0, .int .u8 0, .int .u8 0, .int .u8 0, .int .u8 0, .int .u8 0, .int .u8 0, .int .u8 0, .int .u8 0, .int .u8 0, .int .u8 0, .int .u8 0, .int .u8 0, .int .u8 0, .int .u8 0, .int .u8 0, .int .u8 0, .int .u8 0, .int .u8 0, .int .u8 0, .int .u8 0, .int .u8 0, .int .u8 0, .int .u8 0, .int .u8 0, .int .u8 0, .int .u8 0, .int .u8 0, .int .u8 0, .int .u8 0, .int .u8 0, .int .u8 0, .int .u8 0, .int .u8 0, .int .u8 0, .int .u8 0, .int .u8 0, .int .u8 0, .int .u8 0, .int .u8 0, .int .u8 0, .int .u8 0, .int .u8 0, .int .u8 0, .int .u8 0, .int .u8 0, .int .u8 0] 33 (w.heap.size + 1) (by simp) (rung_zero _ _ _ (by simp)).there
  go_enter Tryd.func13, Tryd.ntmps13
  go_upto_region 0 with fail
  refine wp_region_list ?_
  refine allocL (row .u8 128 (glue (a) (b) (c) (d))).toArray 33 rfl (fun _ => by kernel_rfl) ?_
  simp only [Act.put, List.setIfInBounds_toArray, List.set_cons_zero, List.set_cons_succ]
  refine allocL #[.int .u8 0, .int .u8 0, .int .u8 0, .int .u8 0, .int .u8 0, .int .u8 0, .int .u8 0, .int .u8 0, .int .u8 0, .int .u8 0, .int .u8 0, .int .u8 0, .int .u8 0, .int .u8 0, .int .u8 0, .int .u8 0, .int .u8 0, .int .u8 0, .int .u8 0, .int .u8 0, .int .u8 0, .int .u8 0, .int .u8 0, .int .u8 0, .int .u8 0, .int .u8 0, .int .u8 0, .int .u8 0, .int .u8 0, .int .u8 0, .int .u8 0, .int .u8 0, .int .u8 0, .int .u8 0, .int .u8 0, .int .u8 0, .int .u8 0, .int .u8 0, .int .u8 0, .int .u8 0, .int .u8 0, .int .u8 0, .int .u8 0, .int .u8 0, .int .u8 0, .int .u8 0, .int .u8 0, .int .u8 0, .int .u8 0, .int .u8 0, .int .u8 0, .int .u8 0, .int .u8 0, .int .u8 0, .int .u8 0, .int .u8 0, .int .u8 0, .int .u8 0, .int .u8 0, .int .u8 0, .int .u8 0, .int .u8 0, .int .u8 0, .int .u8 0, .int .u8 0, .int .u8 0, .int .u8 0, .int .u8 0, .int .u8 0, .int .u8 0, .int .u8 0, .int .u8 0, .int .u8 0, .int .u8 0, .int .u8 0, .int .u8 0, .int .u8 0, .int .u8 0, .int .u8 0, .int .u8 0, .int .u8 0, .int .u8 0, .int .u8 0, .int .u8 0, .int .u8 0, .int .u8 0, .int .u8 0, .int .u8 0, .int .u8 0, .int .u8 0, .int .u8 0, .int .u8 0, .int .u8 0, .int .u8 0, .int .u8 0, .int .u8 0, .int .u8 0, .int .u8 0, .int .u8 0, .int .u8 0, .int .u8 0, .int .u8 0, .int .u8 0, .int .u8 0, .int .u8 0, .int .u8 0, .int .u8 0, .int .u8 0, .int .u8 0, .int .u8 0, .int .u8 0, .int .u8 0, .int .u8 0, .int .u8 0, .int .u8 0, .int .u8 0, .int .u8 0, .int .u8 0, .int .u8 0, .int .u8 0, .int .u8 0, .int .u8 0, .int .u8 0, .int .u8 0, .int .u8 0, .int .u8 0, .int .u8 0, .int .u8 0] 33 rfl (fun _ => by kernel_rfl) ?_
  simp only [Act.put, List.setIfInBounds_toArray, List.set_cons_zero, List.set_cons_succ]
  simp only [size_new]
  show Exit.then _ _ _ _ _
  go_upto_region 1 with fail
  refine wp_region_held_drew (S := fun w' => Kq w _ [(w.heap.size, 128, glue (a) (b) (c) (d))] [(w.heap.size + 1, 128)] w') (by kernel_rfl) K.drew ?_
  intro K
  refine pureH (i := 0) (some 5) rfl (.int .u8 bit) rfl rfl (fun _ => by kernel_rfl) (by kernel_rfl) (by kernel_rfl) (by kernel_rfl) (fun _ _ _ h => h) K ?_
  simp only [Act.put, List.setIfInBounds_toArray, List.set_cons_zero, List.set_cons_succ]
  refine pureH (i := 1) (some 6) rfl (.pointer (some ⟨w.heap.size, 0, none⟩)) rfl rfl (fun _ => by kernel_rfl) (by kernel_rfl) (by kernel_rfl) (by kernel_rfl) (fun _ _ _ h => h) K ?_
  simp only [Act.put, List.setIfInBounds_toArray, List.set_cons_zero, List.set_cons_succ]
  refine rowAtH (i := 2) (some 7) rfl 32 (a) (w.heap.size) 0 23 _ _ rfl rfl rfl rfl (by kernel_rfl) (by kernel_rfl) (by kernel_rfl) (fun _ _ _ h => h) Tryd.underlying23 rfl (key_info _) K (fun _ h => h.part0 _ _ _ _ _ List.mem_cons_self) ?_
  simp only [Act.put, List.setIfInBounds_toArray, List.set_cons_zero, List.set_cons_succ]
  refine pureH (i := 3) (some 8) rfl (.pointer (some ⟨w.heap.size, 64, none⟩)) rfl rfl (fun _ => by kernel_rfl) (by kernel_rfl) (by kernel_rfl) (by kernel_rfl) (fun _ _ _ h => h) K ?_
  simp only [Act.put, List.setIfInBounds_toArray, List.set_cons_zero, List.set_cons_succ]
  refine rowAtH (i := 4) (some 9) rfl 32 (c) (w.heap.size) 64 23 _ _ rfl rfl rfl rfl (by kernel_rfl) (by kernel_rfl) (by kernel_rfl) (fun _ _ _ h => h) Tryd.underlying23 rfl (key_info _) K (fun _ h => h.part2 _ _ _ _ _ List.mem_cons_self) ?_
  simp only [Act.put, List.setIfInBounds_toArray, List.set_cons_zero, List.set_cons_succ]
  refine pureH (i := 6) (some 11) rfl (.int .u8 bit) rfl rfl (fun _ => by kernel_rfl) (by kernel_rfl) (by kernel_rfl) (by kernel_rfl) (fun _ _ _ h => h) K ?_
  simp only [Act.put, List.setIfInBounds_toArray, List.set_cons_zero, List.set_cons_succ]
  refine pureH (i := 7) (some 12) rfl (.pointer (some ⟨w.heap.size, 32, none⟩)) rfl rfl (fun _ => by kernel_rfl) (by kernel_rfl) (by kernel_rfl) (by kernel_rfl) (fun _ _ _ h => h) K ?_
  simp only [Act.put, List.setIfInBounds_toArray, List.set_cons_zero, List.set_cons_succ]
  refine rowAtH (i := 8) (some 13) rfl 32 (b) (w.heap.size) 32 23 _ _ rfl rfl rfl rfl (by kernel_rfl) (by kernel_rfl) (by kernel_rfl) (fun _ _ _ h => h) Tryd.underlying23 rfl (key_info _) K (fun _ h => h.part1 _ _ _ _ _ List.mem_cons_self) ?_
  simp only [Act.put, List.setIfInBounds_toArray, List.set_cons_zero, List.set_cons_succ]
  refine pureH (i := 9) (some 14) rfl (.pointer (some ⟨w.heap.size, 96, none⟩)) rfl rfl (fun _ => by kernel_rfl) (by kernel_rfl) (by kernel_rfl) (by kernel_rfl) (fun _ _ _ h => h) K ?_
  simp only [Act.put, List.setIfInBounds_toArray, List.set_cons_zero, List.set_cons_succ]
  refine rowAtH (i := 10) (some 15) rfl 32 (d) (w.heap.size) 96 23 _ _ rfl rfl rfl rfl (by kernel_rfl) (by kernel_rfl) (by kernel_rfl) (fun _ _ _ h => h) Tryd.underlying23 rfl (key_info _) K (fun _ h => h.part3 _ _ _ _ _ List.mem_cons_self) ?_
  simp only [Act.put, List.setIfInBounds_toArray, List.set_cons_zero, List.set_cons_succ]
  refine pureH (i := 12) (some 17) rfl (.int .u8 bit) rfl rfl (fun _ => by kernel_rfl) (by kernel_rfl) (by kernel_rfl) (by kernel_rfl) (fun _ _ _ h => h) K ?_
  simp only [Act.put, List.setIfInBounds_toArray, List.set_cons_zero, List.set_cons_succ]
  refine pureH (i := 13) (some 18) rfl (.pointer (some ⟨w.heap.size, 64, none⟩)) rfl rfl (fun _ => by kernel_rfl) (by kernel_rfl) (by kernel_rfl) (by kernel_rfl) (fun _ _ _ h => h) K ?_
  simp only [Act.put, List.setIfInBounds_toArray, List.set_cons_zero, List.set_cons_succ]
  refine rowAtH (i := 14) (some 19) rfl 32 (c) (w.heap.size) 64 23 _ _ rfl rfl rfl rfl (by kernel_rfl) (by kernel_rfl) (by kernel_rfl) (fun _ _ _ h => h) Tryd.underlying23 rfl (key_info _) K (fun _ h => h.part2 _ _ _ _ _ List.mem_cons_self) ?_
  simp only [Act.put, List.setIfInBounds_toArray, List.set_cons_zero, List.set_cons_succ]
  refine pureH (i := 15) (some 20) rfl (.pointer (some ⟨w.heap.size, 0, none⟩)) rfl rfl (fun _ => by kernel_rfl) (by kernel_rfl) (by kernel_rfl) (by kernel_rfl) (fun _ _ _ h => h) K ?_
  simp only [Act.put, List.setIfInBounds_toArray, List.set_cons_zero, List.set_cons_succ]
  refine rowAtH (i := 16) (some 21) rfl 32 (a) (w.heap.size) 0 23 _ _ rfl rfl rfl rfl (by kernel_rfl) (by kernel_rfl) (by kernel_rfl) (fun _ _ _ h => h) Tryd.underlying23 rfl (key_info _) K (fun _ h => h.part0 _ _ _ _ _ List.mem_cons_self) ?_
  simp only [Act.put, List.setIfInBounds_toArray, List.set_cons_zero, List.set_cons_succ]
  refine pureH (i := 18) (some 23) rfl (.int .u8 bit) rfl rfl (fun _ => by kernel_rfl) (by kernel_rfl) (by kernel_rfl) (by kernel_rfl) (fun _ _ _ h => h) K ?_
  simp only [Act.put, List.setIfInBounds_toArray, List.set_cons_zero, List.set_cons_succ]
  refine pureH (i := 19) (some 24) rfl (.pointer (some ⟨w.heap.size, 96, none⟩)) rfl rfl (fun _ => by kernel_rfl) (by kernel_rfl) (by kernel_rfl) (by kernel_rfl) (fun _ _ _ h => h) K ?_
  simp only [Act.put, List.setIfInBounds_toArray, List.set_cons_zero, List.set_cons_succ]
  refine rowAtH (i := 20) (some 25) rfl 32 (d) (w.heap.size) 96 23 _ _ rfl rfl rfl rfl (by kernel_rfl) (by kernel_rfl) (by kernel_rfl) (fun _ _ _ h => h) Tryd.underlying23 rfl (key_info _) K (fun _ h => h.part3 _ _ _ _ _ List.mem_cons_self) ?_
  simp only [Act.put, List.setIfInBounds_toArray, List.set_cons_zero, List.set_cons_succ]
  refine pureH (i := 21) (some 26) rfl (.pointer (some ⟨w.heap.size, 32, none⟩)) rfl rfl (fun _ => by kernel_rfl) (by kernel_rfl) (by kernel_rfl) (by kernel_rfl) (fun _ _ _ h => h) K ?_
  simp only [Act.put, List.setIfInBounds_toArray, List.set_cons_zero, List.set_cons_succ]
  refine rowAtH (i := 22) (some 27) rfl 32 (b) (w.heap.size) 32 23 _ _ rfl rfl rfl rfl (by kernel_rfl) (by kernel_rfl) (by kernel_rfl) (fun _ _ _ h => h) Tryd.underlying23 rfl (key_info _) K (fun _ h => h.part1 _ _ _ _ _ List.mem_cons_self) ?_
  simp only [Act.put, List.setIfInBounds_toArray, List.set_cons_zero, List.set_cons_succ]
  refine callH (i := 5) (some 10) rfl (by kernel_rfl) rfl rfl (fun _ => by kernel_rfl) (pick_any bit hbit (a) (c) (ha) (hc) _) ?_
  rintro e w1 ⟨rfl, l⟩
  have K := K.call l
  clear l
  refine ⟨_, rfl, K, ?_⟩
  simp only [Act.put, List.setIfInBounds_toArray, List.set_cons_zero, List.set_cons_succ]
  refine callH (i := 11) (some 16) rfl (by kernel_rfl) rfl rfl (fun _ => by kernel_rfl) (pick_any bit hbit (b) (d) (hb) (hd) _) ?_
  rintro e w2 ⟨rfl, l⟩
  have K := K.call l
  clear l
  refine ⟨_, rfl, K, ?_⟩
  simp only [Act.put, List.setIfInBounds_toArray, List.set_cons_zero, List.set_cons_succ]
  refine callH (i := 17) (some 22) rfl (by kernel_rfl) rfl rfl (fun _ => by kernel_rfl) (pick_any bit hbit (c) (a) (hc) (ha) _) ?_
  rintro e w3 ⟨rfl, l⟩
  have K := K.call l
  clear l
  refine ⟨_, rfl, K, ?_⟩
  simp only [Act.put, List.setIfInBounds_toArray, List.set_cons_zero, List.set_cons_succ]
  refine callH (i := 23) (some 28) rfl (by kernel_rfl) rfl rfl (fun _ => by kernel_rfl) (pick_any bit hbit (d) (b) (hd) (hb) _) ?_
  rintro e w4 ⟨rfl, l⟩
  have K := K.call l
  clear l
  refine ⟨_, rfl, K, ?_⟩
  simp only [Act.put, List.setIfInBounds_toArray, List.set_cons_zero, List.set_cons_succ]
  refine pureH (i := 24) (some 29) rfl (.agg (row .u8 128 (glue (sel bit a c) (sel bit b d) (sel bit c a) (sel bit d b))).toArray) rfl rfl (fun _ => by kernel_rfl) (by kernel_rfl) (by kernel_rfl) (by kernel_rfl) (fun _ _ _ h => h) K ?_
  simp only [Act.put, List.setIfInBounds_toArray, List.set_cons_zero, List.set_cons_succ]
  refine storesH (i := 25) (none) rfl .u8 128 (glue (sel bit a c) (sel bit b d) (sel bit c a) (sel bit d b)) (w.heap.size + 1) 33 _ _ (by kernel_rfl) rfl rfl rfl rfl rfl (K.roomy _ _ _ List.mem_cons_self) (rung_info' _) (K.fill _ _ List.mem_cons_self _) ?_
  simp only [Act.put]
  refine wpAnyH_done (by kernel_rfl) ?_ _
  have hO := (K.room _ List.mem_cons_self).1
  have hL := (K.fill _ _ List.mem_cons_self (row .u8 128 (glue (sel bit a c) (sel bit b d) (sel bit c a) (sel bit d b)))).below
  clear K
  go_wp2
  exact bodyPost_ret (v := .agg (row .u8 128 (glue (sel bit a c) (sel bit b d) (sel bit c a) (sel bit d b))).toArray) (results_row Tryd.results13 rfl (Has.all hO .u8 (glue (sel bit a c) (sel bit b d) (sel bit c a) (sel bit d b))).range Tryd.underlying33 rfl (rung_info _)) rfl ⟨rfl, hL⟩

set_option maxRecDepth 10000 in
set_option maxHeartbeats 4000000 in
theorem climb_any (u a b c d : Nat → Int) (hu : In 256 32 u) (ha : In 256 32 a) (hb : In 256 32 b) (hc : In 256 32 c) (hd : In 256 32 d) (w : World) (hg : Glob w) : Calls Tryd.prog 14 #[(.agg (row .u8 32 (u)).toArray), .agg (row .u8 128 (glue (a) (b) (c) (d))).toArray] w fun e w' => ∃ a' b' c' d' : Nat → Int, e = .returned (.agg (row .u8 128 (glue (a') (b') (c') (d'))).toArray) ∧ (In 256 32 a' ∧ In 256 32 b' ∧ In 256 32 c' ∧ In 256 32 d' ∧ stz a' b' c' d' = Ed.climb cz (kz u) (stz a b c d)) ∧ Below w.heap.size w w' := by
  have K := Kq.init w
  have K := K.box 32 (u) 23 (w.heap.size) rfl
  have K := K.box 128 (glue (a) (b) (c) (d)) 33 (w.heap.size + 1) (by simp)
  have K := K.make 128 #[.int .u8 0, .int .u8 0, .int .u8 0, .int .u8 0, .int .u8 0, .int .u8 0, .int .u8 0, .int .u8 0, .int .u8 0, .int .u8 0, .int .u8 0, .int .u8 0, .int .u8 0, .int .u8 0, .int .u8 0, .int .u8 0, .int .u8 0, .int .u8 0, .int .u8 0, .int .u8 0, .int .u8 0, .int .u8 0, .int .u8 0, .int .u8 0, .int .u8 0, .int .u8 0, .int .u8 0, .int .u8 0, .int .u8 0, .int .u8 0, .int .u8 0, .int .u8 0, .int .u8 0, .int .u8 0, .int .u8 0, .int .u8 0, .int .u8 0, .int .u8 0, .int .u8 0, .int .u8 0, .int .u8 0, .int .u8 0, .int .u8 0, .int .u8 0, .int .u8 0, .int .u8 0, .int .u8 0, .int .u8 0, .int .u8 0, .int .u8 0, .int .u8 0, .int .u8 0, .int .u8 0, .int .u8 0, .int .u8 0, .int .u8 0, .int .u8 0, .int .u8 0, .int .u8 0, .int .u8 0, .int .u8 0, .int .u8 0, .int .u8 0, .int .u8 0, .int .u8 0, .int .u8 0, .int .u8 0, .int .u8 0, .int .u8 0, .int .u8 0, .int .u8 0, .int .u8 0, .int .u8 0, .int .u8 0, .int .u8 0, .int .u8 0, .int .u8 0, .int .u8 0, .int .u8 0, .int .u8 0, .int .u8 0, .int .u8 0, .int .u8 0, .int .u8 0, .int .u8 0, .int .u8 0, .int .u8 0, .int .u8 0, .int .u8 0, .int .u8 0, .int .u8 0, .int .u8 0, .int .u8 0, .int .u8 0, .int .u8 0, .int .u8 0, .int .u8 0, .int .u8 0, .int .u8 0, .int .u8 0, .int .u8 0, .int .u8 0, .int .u8 0, .int .u8 0, .int .u8 0, .int .u8 0, .int .u8 0, .int .u8 0, .int .u8 0, .int .u8 0, .int .u8 0, .int .u8 0, .int .u8 0, .int .u8 0, .int .u8 0, .int .u8 0, .int .u8 0, .int .u8 0, .int .u8 0, .int .u8 0, .int .u8 0, .int .u8 0, .int .u8 0, .int .u8 0, .int .u8 0, .int .u8 0, .int .u8 0, .int .u8 0] 33 (w.heap.size + 1 + 1) (by simp) (rung_zero _ _ _ (by simp)).there
  go_enter Tryd.func14, Tryd.ntmps14
  go_upto_region 0 with fail
  refine wp_region_list ?_
  refine allocL (row .u8 32 (u)).toArray 23 rfl (fun _ => by kernel_rfl) ?_
  simp only [Act.put, List.setIfInBounds_toArray, List.set_cons_zero, List.set_cons_succ]
  refine allocL (row .u8 128 (glue (a) (b) (c) (d))).toArray 33 rfl (fun _ => by kernel_rfl) ?_
  simp only [Act.put, List.setIfInBounds_toArray, List.set_cons_zero, List.set_cons_succ]
  refine allocL #[.int .u8 0, .int .u8 0, .int .u8 0, .int .u8 0, .int .u8 0, .int .u8 0, .int .u8 0, .int .u8 0, .int .u8 0, .int .u8 0, .int .u8 0, .int .u8 0, .int .u8 0, .int .u8 0, .int .u8 0, .int .u8 0, .int .u8 0, .int .u8 0, .int .u8 0, .int .u8 0, .int .u8 0, .int .u8 0, .int .u8 0, .int .u8 0, .int .u8 0, .int .u8 0, .int .u8 0, .int .u8 0, .int .u8 0, .int .u8 0, .int .u8 0, .int .u8 0, .int .u8 0, .int .u8 0, .int .u8 0, .int .u8 0, .int .u8 0, .int .u8 0, .int .u8 0, .int .u8 0, .int .u8 0, .int .u8 0, .int .u8 0, .int .u8 0, .int .u8 0, .int .u8 0, .int .u8 0, .int .u8 0, .int .u8 0, .int .u8 0, .int .u8 0, .int .u8 0, .int .u8 0, .int .u8 0, .int .u8 0, .int .u8 0, .int .u8 0, .int .u8 0, .int .u8 0, .int .u8 0, .int .u8 0, .int .u8 0, .int .u8 0, .int .u8 0, .int .u8 0, .int .u8 0, .int .u8 0, .int .u8 0, .int .u8 0, .int .u8 0, .int .u8 0, .int .u8 0, .int .u8 0, .int .u8 0, .int .u8 0, .int .u8 0, .int .u8 0, .int .u8 0, .int .u8 0, .int .u8 0, .int .u8 0, .int .u8 0, .int .u8 0, .int .u8 0, .int .u8 0, .int .u8 0, .int .u8 0, .int .u8 0, .int .u8 0, .int .u8 0, .int .u8 0, .int .u8 0, .int .u8 0, .int .u8 0, .int .u8 0, .int .u8 0, .int .u8 0, .int .u8 0, .int .u8 0, .int .u8 0, .int .u8 0, .int .u8 0, .int .u8 0, .int .u8 0, .int .u8 0, .int .u8 0, .int .u8 0, .int .u8 0, .int .u8 0, .int .u8 0, .int .u8 0, .int .u8 0, .int .u8 0, .int .u8 0, .int .u8 0, .int .u8 0, .int .u8 0, .int .u8 0, .int .u8 0, .int .u8 0, .int .u8 0, .int .u8 0, .int .u8 0, .int .u8 0, .int .u8 0, .int .u8 0, .int .u8 0, .int .u8 0] 33 rfl (fun _ => by kernel_rfl) ?_
  simp only [Act.put, List.setIfInBounds_toArray, List.set_cons_zero, List.set_cons_succ]
  simp only [size_new]
  show Exit.then _ _ _ _ _
  go_upto_region 1 with fail
  refine wp_region_held_drew (S := fun w' => Kq w _ [(w.heap.size + 1, 128, glue (a) (b) (c) (d)), (w.heap.size, 32, u)] [(w.heap.size + 1 + 1, 128)] w') (by kernel_rfl) K.drew ?_
  intro K
  refine pureH (i := 0) (some 14) rfl (.pointer (some ⟨w.heap.size + 1, 0, none⟩)) rfl rfl (fun _ => by kernel_rfl) (by kernel_rfl) (by kernel_rfl) (by kernel_rfl) (fun _ _ _ h => h) K ?_
  simp only [Act.put, List.setIfInBounds_toArray, List.set_cons_zero, List.set_cons_succ]
  refine rowAtH (i := 1) (some 15) rfl 32 (a) (w.heap.size + 1) 0 23 _ _ rfl rfl rfl rfl (by kernel_rfl) (by kernel_rfl) (by kernel_rfl) (fun _ _ _ h => h) Tryd.underlying23 rfl (key_info _) K (fun _ h => h.part0 _ _ _ _ _ List.mem_cons_self) ?_
  simp only [Act.put, List.setIfInBounds_toArray, List.set_cons_zero, List.set_cons_succ]
  refine pureH (i := 2) (some 16) rfl (.pointer (some ⟨w.heap.size + 1, 32, none⟩)) rfl rfl (fun _ => by kernel_rfl) (by kernel_rfl) (by kernel_rfl) (by kernel_rfl) (fun _ _ _ h => h) K ?_
  simp only [Act.put, List.setIfInBounds_toArray, List.set_cons_zero, List.set_cons_succ]
  refine rowAtH (i := 3) (some 17) rfl 32 (b) (w.heap.size + 1) 32 23 _ _ rfl rfl rfl rfl (by kernel_rfl) (by kernel_rfl) (by kernel_rfl) (fun _ _ _ h => h) Tryd.underlying23 rfl (key_info _) K (fun _ h => h.part1 _ _ _ _ _ List.mem_cons_self) ?_
  simp only [Act.put, List.setIfInBounds_toArray, List.set_cons_zero, List.set_cons_succ]
  refine pureH (i := 5) (some 19) rfl (.pointer (some ⟨w.heap.size + 1, 0, none⟩)) rfl rfl (fun _ => by kernel_rfl) (by kernel_rfl) (by kernel_rfl) (by kernel_rfl) (fun _ _ _ h => h) K ?_
  simp only [Act.put, List.setIfInBounds_toArray, List.set_cons_zero, List.set_cons_succ]
  refine rowAtH (i := 6) (some 20) rfl 32 (a) (w.heap.size + 1) 0 23 _ _ rfl rfl rfl rfl (by kernel_rfl) (by kernel_rfl) (by kernel_rfl) (fun _ _ _ h => h) Tryd.underlying23 rfl (key_info _) K (fun _ h => h.part0 _ _ _ _ _ List.mem_cons_self) ?_
  simp only [Act.put, List.setIfInBounds_toArray, List.set_cons_zero, List.set_cons_succ]
  refine pureH (i := 7) (some 21) rfl (.pointer (some ⟨w.heap.size + 1, 32, none⟩)) rfl rfl (fun _ => by kernel_rfl) (by kernel_rfl) (by kernel_rfl) (by kernel_rfl) (fun _ _ _ h => h) K ?_
  simp only [Act.put, List.setIfInBounds_toArray, List.set_cons_zero, List.set_cons_succ]
  refine rowAtH (i := 8) (some 22) rfl 32 (b) (w.heap.size + 1) 32 23 _ _ rfl rfl rfl rfl (by kernel_rfl) (by kernel_rfl) (by kernel_rfl) (fun _ _ _ h => h) Tryd.underlying23 rfl (key_info _) K (fun _ h => h.part1 _ _ _ _ _ List.mem_cons_self) ?_
  simp only [Act.put, List.setIfInBounds_toArray, List.set_cons_zero, List.set_cons_succ]
  refine pairH (c1 := 4) (c2 := 9) (a1 := 10) (a2 := 11) 18 23 5 6 #[.int .u8 0, .int .u8 0, .int .u8 0, .int .u8 0, .int .u8 0, .int .u8 0, .int .u8 0, .int .u8 0, .int .u8 0, .int .u8 0, .int .u8 0, .int .u8 0, .int .u8 0, .int .u8 0, .int .u8 0, .int .u8 0, .int .u8 0, .int .u8 0, .int .u8 0, .int .u8 0, .int .u8 0, .int .u8 0, .int .u8 0, .int .u8 0, .int .u8 0, .int .u8 0, .int .u8 0, .int .u8 0, .int .u8 0, .int .u8 0, .int .u8 0, .int .u8 0] 23 (Kz (kz (a) + kz (b))) (Kz (kz (a) - kz (b))) rfl rfl rfl rfl (by decide) (by decide) (by decide) (by decide) (by decide) (by decide) (by decide) (by decide) (by decide) (by decide) rfl rfl rfl rfl rfl rfl rfl rfl (fun _ _ h => by cases h) (fun _ _ h => by cases h) (by decide +kernel) (by decide +kernel) (by decide +kernel) (by decide +kernel) (by decide +kernel) (by kernel_rfl) (by kernel_rfl) (by kernel_rfl) (by kernel_rfl) (by kernel_rfl) (by kernel_rfl) (by kernel_rfl) (by kernel_rfl) (by kernel_rfl) (by kernel_rfl) (by kernel_rfl) (fun _ => by kernel_rfl) (fun _ => by kernel_rfl) (fun _ _ => by kernel_rfl) (fun _ _ => by kernel_rfl) (fun _ => (key_zero _ _ _ rfl).there) K (fun _ h => h.size) (fun _ _ h l => h.call l)
    (fun _ h => (addz (a) (b) (ha) (hb) _ (hg.below h.below hg.size)).mono fun _ _ q => q.ks) (fun _ h => (subz (a) (b) (ha) (hb) _ (hg.below h.below hg.size)).mono fun _ _ q => q.ks) ?_
  rintro v1 v2 B5 B6 w1 ⟨f1, rfl, s1⟩ ⟨f2, rfl, s2⟩ K b1 b2 ne
  simp only [Act.put, List.setIfInBounds_toArray, List.set_cons_zero, List.set_cons_succ]
  refine storesH (i := 12) (none) rfl .u8 32 (f1) (B5) 23 _ _ (by kernel_rfl) rfl rfl rfl rfl rfl (room_of b1.th) (key_info' _) (K.past _ b1.lo _) ?_
  simp only [Act.put]
  refine storesH (i := 13) (none) rfl .u8 32 (f2) (B6) 23 _ _ (by kernel_rfl) rfl rfl rfl rfl rfl (room_of (World.there_setCells b2.th _ _ _)) (key_info' _) ((K.past _ b1.lo _).past _ b2.lo _) ?_
  simp only [Act.put]
  refine wpAnyH_done (by kernel_rfl) ?_ _
  have K := K.two b1 b2 ne f1 f2
  clear b1 b2 ne
  generalize ((w1.setCells B5 0 (row .u8 32 f1)).setCells B6 0 (row .u8 32 f2)) = w2 at K ⊢
  go_upto_region 2 with fail
  refine wp_region_held_drew (S := fun w' => Kq w _ [(B6, 32, f2), (B5, 32, f1), (w.heap.size + 1, 128, glue (a) (b) (c) (d)), (w.heap.size, 32, u)] [(w.heap.size + 1 + 1, 128)] w') (by kernel_rfl) K.drew ?_
  intro K
  refine pureH (i := 0) (some 24) rfl (.pointer (some ⟨w.heap.size + 1, 64, none⟩)) rfl rfl (fun _ => by kernel_rfl) (by kernel_rfl) (by kernel_rfl) (by kernel_rfl) (fun _ _ _ h => h) K ?_
  simp only [Act.put, List.setIfInBounds_toArray, List.set_cons_zero, List.set_cons_succ]
  refine rowAtH (i := 1) (some 25) rfl 32 (c) (w.heap.size + 1) 64 23 _ _ rfl rfl rfl rfl (by kernel_rfl) (by kernel_rfl) (by kernel_rfl) (fun _ _ _ h => h) Tryd.underlying23 rfl (key_info _) K (fun _ h => h.part2 _ _ _ _ _ (List.mem_cons_of_mem _ (List.mem_cons_of_mem _ List.mem_cons_self))) ?_
  simp only [Act.put, List.setIfInBounds_toArray, List.set_cons_zero, List.set_cons_succ]
  refine pureH (i := 2) (some 26) rfl (.pointer (some ⟨w.heap.size + 1, 96, none⟩)) rfl rfl (fun _ => by kernel_rfl) (by kernel_rfl) (by kernel_rfl) (by kernel_rfl) (fun _ _ _ h => h) K ?_
  simp only [Act.put, List.setIfInBounds_toArray, List.set_cons_zero, List.set_cons_succ]
  refine rowAtH (i := 3) (some 27) rfl 32 (d) (w.heap.size + 1) 96 23 _ _ rfl rfl rfl rfl (by kernel_rfl) (by kernel_rfl) (by kernel_rfl) (fun _ _ _ h => h) Tryd.underlying23 rfl (key_info _) K (fun _ h => h.part3 _ _ _ _ _ (List.mem_cons_of_mem _ (List.mem_cons_of_mem _ List.mem_cons_self))) ?_
  simp only [Act.put, List.setIfInBounds_toArray, List.set_cons_zero, List.set_cons_succ]
  refine pureH (i := 5) (some 29) rfl (.pointer (some ⟨w.heap.size + 1, 64, none⟩)) rfl rfl (fun _ => by kernel_rfl) (by kernel_rfl) (by kernel_rfl) (by kernel_rfl) (fun _ _ _ h => h) K ?_
  simp only [Act.put, List.setIfInBounds_toArray, List.set_cons_zero, List.set_cons_succ]
  refine rowAtH (i := 6) (some 30) rfl 32 (c) (w.heap.size + 1) 64 23 _ _ rfl rfl rfl rfl (by kernel_rfl) (by kernel_rfl) (by kernel_rfl) (fun _ _ _ h => h) Tryd.underlying23 rfl (key_info _) K (fun _ h => h.part2 _ _ _ _ _ (List.mem_cons_of_mem _ (List.mem_cons_of_mem _ List.mem_cons_self))) ?_
  simp only [Act.put, List.setIfInBounds_toArray, List.set_cons_zero, List.set_cons_succ]
  refine pureH (i := 7) (some 31) rfl (.pointer (some ⟨w.heap.size + 1, 96, none⟩)) rfl rfl (fun _ => by kernel_rfl) (by kernel_rfl) (by kernel_rfl) (by kernel_rfl) (fun _ _ _ h => h) K ?_
  simp only [Act.put, List.setIfInBounds_toArray, List.set_cons_zero, List.set_cons_succ]
  refine rowAtH (i := 8) (some 32) rfl 32 (d) (w.heap.size + 1) 96 23 _ _ rfl rfl rfl rfl (by kernel_rfl) (by kernel_rfl) (by kernel_rfl) (fun _ _ _ h => h) Tryd.underlying23 rfl (key_info _) K (fun _ h => h.part3 _ _ _ _ _ (List.mem_cons_of_mem _ (List.mem_cons_of_mem _ List.mem_cons_self))) ?_
  simp only [Act.put, List.setIfInBounds_toArray, List.set_cons_zero, List.set_cons_succ]
  refine pairH (c1 := 4) (c2 := 9) (a1 := 10) (a2 := 11) 28 33 7 8 #[.int .u8 0, .int .u8 0, .int .u8 0, .int .u8 0, .int .u8 0, .int .u8 0, .int .u8 0, .int .u8 0, .int .u8 0, .int .u8 0, .int .u8 0, .int .u8 0, .int .u8 0, .int .u8 0, .int .u8 0, .int .u8 0, .int .u8 0, .int .u8 0, .int .u8 0, .int .u8 0, .int .u8 0, .int .u8 0, .int .u8 0, .int .u8 0, .int .u8 0, .int .u8 0, .int .u8 0, .int .u8 0, .int .u8 0, .int .u8 0, .int .u8 0, .int .u8 0] 23 (Kz (kz (c) + kz (d))) (Kz (kz (c) - kz (d))) rfl rfl rfl rfl (by decide) (by decide) (by decide) (by decide) (by decide) (by decide) (by decide) (by decide) (by decide) (by decide) rfl rfl rfl rfl rfl rfl rfl rfl (fun _ _ h => by cases h) (fun _ _ h => by cases h) (by decide +kernel) (by decide +kernel) (by decide +kernel) (by decide +kernel) (by decide +kernel) (by kernel_rfl) (by kernel_rfl) (by kernel_rfl) (by kernel_rfl) (by kernel_rfl) (by kernel_rfl) (by kernel_rfl) (by kernel_rfl) (by kernel_rfl) (by kernel_rfl) (by kernel_rfl) (fun _ => by kernel_rfl) (fun _ => by kernel_rfl) (fun _ _ => by kernel_rfl) (fun _ _ => by kernel_rfl) (fun _ => (key_zero _ _ _ rfl).there) K (fun _ h => h.size) (fun _ _ h l => h.call l)
    (fun _ h => (addz (c) (d) (hc) (hd) _ (hg.below h.below hg.size)).mono fun _ _ q => q.ks) (fun _ h => (subz (c) (d) (hc) (hd) _ (hg.below h.below hg.size)).mono fun _ _ q => q.ks) ?_
  rintro v1 v2 B7 B8 w3 ⟨f3, rfl, s3⟩ ⟨f4, rfl, s4⟩ K b1 b2 ne
  simp only [Act.put, List.setIfInBounds_toArray, List.set_cons_zero, List.set_cons_succ]
  refine storesH (i := 12) (none) rfl .u8 32 (f3) (B7) 23 _ _ (by kernel_rfl) rfl rfl rfl rfl rfl (room_of b1.th) (key_info' _) (K.past _ b1.lo _) ?_
  simp only [Act.put]
  refine storesH (i := 13) (none) rfl .u8 32 (f4) (B8) 23 _ _ (by kernel_rfl) rfl rfl rfl rfl rfl (room_of (World.there_setCells b2.th _ _ _)) (key_info' _) ((K.past _ b1.lo _).past _ b2.lo _) ?_
  simp only [Act.put]
  refine wpAnyH_done (by kernel_rfl) ?_ _
  have K := K.two b1 b2 ne f3 f4
  clear b1 b2 ne
  generalize ((w3.setCells B7 0 (row .u8 32 f3)).setCells B8 0 (row .u8 32 f4)) = w4 at K ⊢
  go_upto_region 3 with fail
  refine wp_region_held_drew (S := fun w' => Kq w _ [(B8, 32, f4), (B7, 32, f3), (B6, 32, f2), (B5, 32, f1), (w.heap.size + 1, 128, glue (a) (b) (c) (d)), (w.heap.size, 32, u)] [(w.heap.size + 1 + 1, 128)] w') (by kernel_rfl) K.drew ?_
  intro K
  refine rowAtH (i := 0) (some 34) rfl 32 (f4) (B8) 0 23 _ _ rfl rfl rfl rfl (by kernel_rfl) (by kernel_rfl) (by kernel_rfl) (fun _ _ _ h => h) Tryd.underlying23 rfl (key_info _) K (fun _ h => h.whole _ _ List.mem_cons_self) ?_
  simp only [Act.put, List.setIfInBounds_toArray, List.set_cons_zero, List.set_cons_succ]
  refine rowAtH (i := 1) (some 35) rfl 32 (f1) (B5) 0 23 _ _ rfl rfl rfl rfl (by kernel_rfl) (by kernel_rfl) (by kernel_rfl) (fun _ _ _ h => h) Tryd.underlying23 rfl (key_info _) K (fun _ h => h.whole _ _ (List.mem_cons_of_mem _ (List.mem_cons_of_mem _ (List.mem_cons_of_mem _ List.mem_cons_self)))) ?_
  simp only [Act.put, List.setIfInBounds_toArray, List.set_cons_zero, List.set_cons_succ]
  refine rowAtH (i := 3) (some 37) rfl 32 (f3) (B7) 0 23 _ _ rfl rfl rfl rfl (by kernel_rfl) (by kernel_rfl) (by kernel_rfl) (fun _ _ _ h => h) Tryd.underlying23 rfl (key_info _) K (fun _ h => h.whole _ _ (List.mem_cons_of_mem _ List.mem_cons_self)) ?_
  simp only [Act.put, List.setIfInBounds_toArray, List.set_cons_zero, List.set_cons_succ]
  refine rowAtH (i := 4) (some 38) rfl 32 (f2) (B6) 0 23 _ _ rfl rfl rfl rfl (by kernel_rfl) (by kernel_rfl) (by kernel_rfl) (fun _ _ _ h => h) Tryd.underlying23 rfl (key_info _) K (fun _ h => h.whole _ _ (List.mem_cons_of_mem _ (List.mem_cons_of_mem _ List.mem_cons_self))) ?_
  simp only [Act.put, List.setIfInBounds_toArray, List.set_cons_zero, List.set_cons_succ]
  refine pairH (c1 := 2) (c2 := 5) (a1 := 6) (a2 := 7) 36 39 9 10 #[.int .u8 0, .int .u8 0, .int .u8 0, .int .u8 0, .int .u8 0, .int .u8 0, .int .u8 0, .int .u8 0, .int .u8 0, .int .u8 0, .int .u8 0, .int .u8 0, .int .u8 0, .int .u8 0, .int .u8 0, .int .u8 0, .int .u8 0, .int .u8 0, .int .u8 0, .int .u8 0, .int .u8 0, .int .u8 0, .int .u8 0, .int .u8 0, .int .u8 0, .int .u8 0, .int .u8 0, .int .u8 0, .int .u8 0, .int .u8 0, .int .u8 0, .int .u8 0] 23 (Kz (kz (f4) * kz (f1))) (Kz (kz (f3) * kz (f2))) rfl rfl rfl rfl (by decide) (by decide) (by decide) (by decide) (by decide) (by decide) (by decide) (by decide) (by decide) (by decide) rfl rfl rfl rfl rfl rfl rfl rfl (fun _ _ h => by cases h) (fun _ _ h => by cases h) (by decide +kernel) (by decide +kernel) (by decide +kernel) (by decide +kernel) (by decide +kernel) (by kernel_rfl) (by kernel_rfl) (by kernel_rfl) (by kernel_rfl) (by kernel_rfl) (by kernel_rfl) (by kernel_rfl) (by kernel_rfl) (by kernel_rfl) (by kernel_rfl) (by kernel_rfl) (fun _ => by kernel_rfl) (fun _ => by kernel_rfl) (fun _ _ => by kernel_rfl) (fun _ _ => by kernel_rfl) (fun _ => (key_zero _ _ _ rfl).there) K (fun _ h => h.size) (fun _ _ h l => h.call l)
    (fun _ h => (mulz (f4) (f1) (s4.1) (s1.1) _ (hg.below h.below hg.size)).mono fun _ _ q => q.ks) (fun _ h => (mulz (f3) (f2) (s3.1) (s2.1) _ (hg.below h.below hg.size)).mono fun _ _ q => q.ks) ?_
  rintro v1 v2 B9 B10 w5 ⟨f5, rfl, s5⟩ ⟨f6, rfl, s6⟩ K b1 b2 ne
  simp only [Act.put, List.setIfInBounds_toArray, List.set_cons_zero, List.set_cons_succ]
  refine storesH (i := 8) (none) rfl .u8 32 (f5) (B9) 23 _ _ (by kernel_rfl) rfl rfl rfl rfl rfl (room_of b1.th) (key_info' _) (K.past _ b1.lo _) ?_
  simp only [Act.put]
  refine storesH (i := 9) (none) rfl .u8 32 (f6) (B10) 23 _ _ (by kernel_rfl) rfl rfl rfl rfl rfl (room_of (World.there_setCells b2.th _ _ _)) (key_info' _) ((K.past _ b1.lo _).past _ b2.lo _) ?_
  simp only [Act.put]
  refine wpAnyH_done (by kernel_rfl) ?_ _
  have K := K.two b1 b2 ne f5 f6
  clear b1 b2 ne
  generalize ((w5.setCells B9 0 (row .u8 32 f5)).setCells B10 0 (row .u8 32 f6)) = w6 at K ⊢
  go_upto_region 4 with fail
  refine wp_region_held_drew (S := fun w' => Kq w _ [(B10, 32, f6), (B9, 32, f5), (B8, 32, f4), (B7, 32, f3), (B6, 32, f2), (B5, 32, f1), (w.heap.size + 1, 128, glue (a) (b) (c) (d)), (w.heap.size, 32, u)] [(w.heap.size + 1 + 1, 128)] w') (by kernel_rfl) K.drew ?_
  intro K
  refine rowAtH (i := 0) (some 40) rfl 32 (f1) (B5) 0 23 _ _ rfl rfl rfl rfl (by kernel_rfl) (by kernel_rfl) (by kernel_rfl) (fun _ _ _ h => h) Tryd.underlying23 rfl (key_info _) K (fun _ h => h.whole _ _ (List.mem_cons_of_mem _ (List.mem_cons_of_mem _ (List.mem_cons_of_mem _ (List.mem_cons_of_mem _ (List.mem_cons_of_mem _ List.mem_cons_self)))))) ?_
  simp only [Act.put, List.setIfInBounds_toArray, List.set_cons_zero, List.set_cons_succ]
  refine rowAtH (i := 2) (some 42) rfl 32 (f2) (B6) 0 23 _ _ rfl rfl rfl rfl (by kernel_rfl) (by kernel_rfl) (by kernel_rfl) (fun _ _ _ h => h) Tryd.underlying23 rfl (key_info _) K (fun _ h => h.whole _ _ (List.mem_cons_of_mem _ (List.mem_cons_of_mem _ (List.mem_cons_of_mem _ (List.mem_cons_of_mem _ List.mem_cons_self))))) ?_
  simp only [Act.put, List.setIfInBounds_toArray, List.set_cons_zero, List.set_cons_succ]
  refine pairH (c1 := 1) (c2 := 3) (a1 := 4) (a2 := 5) 41 43 11 12 #[.int .u8 0, .int .u8 0, .int .u8 0, .int .u8 0, .int .u8 0, .int .u8 0, .int .u8 0, .int .u8 0, .int .u8 0, .int .u8 0, .int .u8 0, .int .u8 0, .int .u8 0, .int .u8 0, .int .u8 0, .int .u8 0, .int .u8 0, .int .u8 0, .int .u8 0, .int .u8 0, .int .u8 0, .int .u8 0, .int .u8 0, .int .u8 0, .int .u8 0, .int .u8 0, .int .u8 0, .int .u8 0, .int .u8 0, .int .u8 0, .int .u8 0, .int .u8 0] 23 (Kz (kz (f1) * kz (f1))) (Kz (kz (f2) * kz (f2))) rfl rfl rfl rfl (by decide) (by decide) (by decide) (by decide) (by decide) (by decide) (by decide) (by decide) (by decide) (by decide) rfl rfl rfl rfl rfl rfl rfl rfl (fun _ _ h => by cases h) (fun _ _ h => by cases h) (by decide +kernel) (by decide +kernel) (by decide +kernel) (by decide +kernel) (by decide +kernel) (by kernel_rfl) (by kernel_rfl) (by kernel_rfl) (by kernel_rfl) (by kernel_rfl) (by kernel_rfl) (by kernel_rfl) (by kernel_rfl) (by kernel_rfl) (by kernel_rfl) (by kernel_rfl) (fun _ => by kernel_rfl) (fun _ => by kernel_rfl) (fun _ _ => by kernel_rfl) (fun _ _ => by kernel_rfl) (fun _ => (key_zero _ _ _ rfl).there) K (fun _ h => h.size) (fun _ _ h l => h.call l)
    (fun _ h => (sqz (f1) (s1.1) _ (hg.below h.below hg.size)).mono fun _ _ q => q.ks) (fun _ h => (sqz (f2) (s2.1) _ (hg.below h.below hg.size)).mono fun _ _ q => q.ks) ?_
  rintro v1 v2 B11 B12 w7 ⟨f7, rfl, s7⟩ ⟨f8, rfl, s8⟩ K b1 b2 ne
  simp only [Act.put, List.setIfInBounds_toArray, List.set_cons_zero, List.set_cons_succ]
  refine storesH (i := 6) (none) rfl .u8 32 (f7) (B11) 23 _ _ (by kernel_rfl) rfl rfl rfl rfl rfl (room_of b1.th) (key_info' _) (K.past _ b1.lo _) ?_
  simp only [Act.put]
  refine storesH (i := 7) (none) rfl .u8 32 (f8) (B12) 23 _ _ (by kernel_rfl) rfl rfl rfl rfl rfl (room_of (World.there_setCells b2.th _ _ _)) (key_info' _) ((K.past _ b1.lo _).past _ b2.lo _) ?_
  simp only [Act.put]
  refine wpAnyH_done (by kernel_rfl) ?_ _
  have K := K.two b1 b2 ne f7 f8
  clear b1 b2 ne
  generalize ((w7.setCells B11 0 (row .u8 32 f7)).setCells B12 0 (row .u8 32 f8)) = w8 at K ⊢
  go_upto_region 5 with fail
  refine wp_region_list ?_
  refine rowAtL 32 (f7) (B11) 0 23 _ _ rfl rfl rfl Tryd.underlying23 rfl (key_info _) (K.whole _ _ (List.mem_cons_of_mem _ List.mem_cons_self)) ?_
  simp only [Act.put, List.setIfInBounds_toArray, List.set_cons_zero, List.set_cons_succ]
  refine rowAtL 32 (f8) (B12) 0 23 _ _ rfl rfl rfl Tryd.underlying23 rfl (key_info _) (K.whole _ _ List.mem_cons_self) ?_
  simp only [Act.put, List.setIfInBounds_toArray, List.set_cons_zero, List.set_cons_succ]
  refine callL rfl (fun _ => by kernel_rfl) (subz (f7) (f8) (s7.1) (s8.1) _ (hg.below K.below hg.size)) ?_
  rintro e w9 ⟨f9, rfl, s9, l⟩
  have K := K.call l
  clear l
  refine ⟨_, rfl, ?_⟩
  simp only [Act.put, List.setIfInBounds_toArray, List.set_cons_zero, List.set_cons_succ]
  refine allocL #[.int .u8 0, .int .u8 0, .int .u8 0, .int .u8 0, .int .u8 0, .int .u8 0, .int .u8 0, .int .u8 0, .int .u8 0, .int .u8 0, .int .u8 0, .int .u8 0, .int .u8 0, .int .u8 0, .int .u8 0, .int .u8 0, .int .u8 0, .int .u8 0, .int .u8 0, .int .u8 0, .int .u8 0, .int .u8 0, .int .u8 0, .int .u8 0, .int .u8 0, .int .u8 0, .int .u8 0, .int .u8 0, .int .u8 0, .int .u8 0, .int .u8 0, .int .u8 0] 23 rfl (fun _ => by kernel_rfl) ?_
  simp only [Act.put, List.setIfInBounds_toArray, List.set_cons_zero, List.set_cons_succ]
  refine storesL .u8 32 (f9) (w9.heap.size) 23 _ _ rfl rfl rfl rfl (room_of (key_zero _ _ _ rfl).there) (key_info' _) ?_
  have K := K.fresh 32 (f9) #[.int .u8 0, .int .u8 0, .int .u8 0, .int .u8 0, .int .u8 0, .int .u8 0, .int .u8 0, .int .u8 0, .int .u8 0, .int .u8 0, .int .u8 0, .int .u8 0, .int .u8 0, .int .u8 0, .int .u8 0, .int .u8 0, .int .u8 0, .int .u8 0, .int .u8 0, .int .u8 0, .int .u8 0, .int .u8 0, .int .u8 0, .int .u8 0, .int .u8 0, .int .u8 0, .int .u8 0, .int .u8 0, .int .u8 0, .int .u8 0, .int .u8 0, .int .u8 0] 23 (key_zero _ _ _ rfl).there
  simp only [Act.put]
  show Exit.then _ _ _ _ _
  go_upto_region 6 with fail
  refine wp_region_held_drew (S := fun w' => Kq w _ [(w9.heap.size, 32, f9), (B12, 32, f8), (B11, 32, f7), (B10, 32, f6), (B9, 32, f5), (B8, 32, f4), (B7, 32, f3), (B6, 32, f2), (B5, 32, f1), (w.heap.size + 1, 128, glue (a) (b) (c) (d)), (w.heap.size, 32, u)] [(w.heap.size + 1 + 1, 128)] w') (by kernel_rfl) K.drew ?_
  intro K
  refine rowAtH (i := 0) (some 47) rfl 32 (f7) (B11) 0 23 _ _ rfl rfl rfl rfl (by kernel_rfl) (by kernel_rfl) (by kernel_rfl) (fun _ _ _ h => h) Tryd.underlying23 rfl (key_info _) K (fun _ h => h.whole _ _ (List.mem_cons_of_mem _ (List.mem_cons_of_mem _ List.mem_cons_self))) ?_
  simp only [Act.put, List.setIfInBounds_toArray, List.set_cons_zero, List.set_cons_succ]
  refine rowAtH (i := 1) (some 48) rfl 32 (f8) (B12) 0 23 _ _ rfl rfl rfl rfl (by kernel_rfl) (by kernel_rfl) (by kernel_rfl) (fun _ _ _ h => h) Tryd.underlying23 rfl (key_info _) K (fun _ h => h.whole _ _ (List.mem_cons_of_mem _ List.mem_cons_self)) ?_
  simp only [Act.put, List.setIfInBounds_toArray, List.set_cons_zero, List.set_cons_succ]
  refine rowAtH (i := 3) (some 50) rfl 32 (f9) (w9.heap.size) 0 23 _ _ rfl rfl rfl rfl (by kernel_rfl) (by kernel_rfl) (by kernel_rfl) (fun _ _ _ h => h) Tryd.underlying23 rfl (key_info _) K (fun _ h => h.whole _ _ List.mem_cons_self) ?_
  simp only [Act.put, List.setIfInBounds_toArray, List.set_cons_zero, List.set_cons_succ]
  refine rowAtH (i := 4) (some 51) rfl 32 (f7) (B11) 0 23 _ _ rfl rfl rfl rfl (by kernel_rfl) (by kernel_rfl) (by kernel_rfl) (fun _ _ _ h => h) Tryd.underlying23 rfl (key_info _) K (fun _ h => h.whole _ _ (List.mem_cons_of_mem _ (List.mem_cons_of_mem _ List.mem_cons_self))) ?_
  simp only [Act.put, List.setIfInBounds_toArray, List.set_cons_zero, List.set_cons_succ]
  refine rowAtH (i := 5) (some 52) rfl 32 (f9) (w9.heap.size) 0 23 _ _ rfl rfl rfl rfl (by kernel_rfl) (by kernel_rfl) (by kernel_rfl) (fun _ _ _ h => h) Tryd.underlying23 rfl (key_info _) K (fun _ h => h.whole _ _ List.mem_cons_self) ?_
  simp only [Act.put, List.setIfInBounds_toArray, List.set_cons_zero, List.set_cons_succ]
  refine rowAtH (i := 9) (some 56) rfl 32 (f5) (B9) 0 23 _ _ rfl rfl rfl rfl (by kernel_rfl) (by kernel_rfl) (by kernel_rfl) (fun _ _ _ h => h) Tryd.underlying23 rfl (key_info _) K (fun _ h => h.whole _ _ (List.mem_cons_of_mem _ (List.mem_cons_of_mem _ (List.mem_cons_of_mem _ (List.mem_cons_of_mem _ List.mem_cons_self))))) ?_
  simp only [Act.put, List.setIfInBounds_toArray, List.set_cons_zero, List.set_cons_succ]
  refine rowAtH (i := 10) (some 57) rfl 32 (f6) (B10) 0 23 _ _ rfl rfl rfl rfl (by kernel_rfl) (by kernel_rfl) (by kernel_rfl) (fun _ _ _ h => h) Tryd.underlying23 rfl (key_info _) K (fun _ h => h.whole _ _ (List.mem_cons_of_mem _ (List.mem_cons_of_mem _ (List.mem_cons_of_mem _ List.mem_cons_self)))) ?_
  simp only [Act.put, List.setIfInBounds_toArray, List.set_cons_zero, List.set_cons_succ]
  refine rowAtH (i := 13) (some 60) rfl 32 (u) (w.heap.size) 0 23 _ _ rfl rfl rfl rfl (by kernel_rfl) (by kernel_rfl) (by kernel_rfl) (fun _ _ _ h => h) Tryd.underlying23 rfl (key_info _) K (fun _ h => h.whole _ _ (List.mem_cons_of_mem _ (List.mem_cons_of_mem _ (List.mem_cons_of_mem _ (List.mem_cons_of_mem _ (List.mem_cons_of_mem _ (List.mem_cons_of_mem _ (List.mem_cons_of_mem _ (List.mem_cons_of_mem _ (List.mem_cons_of_mem _ (List.mem_cons_of_mem _ List.mem_cons_self))))))))))) ?_
  simp only [Act.put, List.setIfInBounds_toArray, List.set_cons_zero, List.set_cons_succ]
  refine rowAtH (i := 14) (some 61) rfl 32 (f5) (B9) 0 23 _ _ rfl rfl rfl rfl (by kernel_rfl) (by kernel_rfl) (by kernel_rfl) (fun _ _ _ h => h) Tryd.underlying23 rfl (key_info _) K (fun _ h => h.whole _ _ (List.mem_cons_of_mem _ (List.mem_cons_of_mem _ (List.mem_cons_of_mem _ (List.mem_cons_of_mem _ List.mem_cons_self))))) ?_
  simp only [Act.put, List.setIfInBounds_toArray, List.set_cons_zero, List.set_cons_succ]
  refine rowAtH (i := 15) (some 62) rfl 32 (f6) (B10) 0 23 _ _ rfl rfl rfl rfl (by kernel_rfl) (by kernel_rfl) (by kernel_rfl) (fun _ _ _ h => h) Tryd.underlying23 rfl (key_info _) K (fun _ h => h.whole _ _ (List.mem_cons_of_mem _ (List.mem_cons_of_mem _ (List.mem_cons_of_mem _ List.mem_cons_self)))) ?_
  simp only [Act.put, List.setIfInBounds_toArray, List.set_cons_zero, List.set_cons_succ]
  refine callH (i := 2) (some 49) rfl (by kernel_rfl) rfl rfl (fun _ => by kernel_rfl) (mulz (f7) (f8) (s7.1) (s8.1) _ (hg.below K.below hg.size)) ?_
  rintro e w10 ⟨f10, rfl, s10, l⟩
  have K := K.call l
  clear l
  refine ⟨_, rfl, K, ?_⟩
  simp only [Act.put, List.setIfInBounds_toArray, List.set_cons_zero, List.set_cons_succ]
  refine callH (i := 6) (some 53) rfl (by kernel_rfl) rfl rfl (fun _ => by kernel_rfl) (bent_any (f9) (s9.1) _ (hg.below K.below hg.size)) ?_
  rintro e w11 ⟨f11, rfl, s11, l⟩
  have K := K.call l
  clear l
  refine ⟨_, rfl, K, ?_⟩
  simp only [Act.put, List.setIfInBounds_toArray, List.set_cons_zero, List.set_cons_succ]
  refine callH (i := 7) (some 54) rfl (by kernel_rfl) rfl rfl (fun _ => by kernel_rfl) (addz (f7) (f11) (s7.1) (s11.1) _ (hg.below K.below hg.size)) ?_
  rintro e w12 ⟨f12, rfl, s12, l⟩
  have K := K.call l
  clear l
  refine ⟨_, rfl, K, ?_⟩
  simp only [Act.put, List.setIfInBounds_toArray, List.set_cons_zero, List.set_cons_succ]
  refine callH (i := 8) (some 55) rfl (by kernel_rfl) rfl rfl (fun _ => by kernel_rfl) (mulz (f9) (f12) (s9.1) (s12.1) _ (hg.below K.below hg.size)) ?_
  rintro e w13 ⟨f13, rfl, s13, l⟩
  have K := K.call l
  clear l
  refine ⟨_, rfl, K, ?_⟩
  simp only [Act.put, List.setIfInBounds_toArray, List.set_cons_zero, List.set_cons_succ]
  refine callH (i := 11) (some 58) rfl (by kernel_rfl) rfl rfl (fun _ => by kernel_rfl) (addz (f5) (f6) (s5.1) (s6.1) _ (hg.below K.below hg.size)) ?_
  rintro e w14 ⟨f14, rfl, s14, l⟩
  have K := K.call l
  clear l
  refine ⟨_, rfl, K, ?_⟩
  simp only [Act.put, List.setIfInBounds_toArray, List.set_cons_zero, List.set_cons_succ]
  refine callH (i := 12) (some 59) rfl (by kernel_rfl) rfl rfl (fun _ => by kernel_rfl) (sqz (f14) (s14.1) _ (hg.below K.below hg.size)) ?_
  rintro e w15 ⟨f15, rfl, s15, l⟩
  have K := K.call l
  clear l
  refine ⟨_, rfl, K, ?_⟩
  simp only [Act.put, List.setIfInBounds_toArray, List.set_cons_zero, List.set_cons_succ]
  refine callH (i := 16) (some 63) rfl (by kernel_rfl) rfl rfl (fun _ => by kernel_rfl) (subz (f5) (f6) (s5.1) (s6.1) _ (hg.below K.below hg.size)) ?_
  rintro e w16 ⟨f16, rfl, s16, l⟩
  have K := K.call l
  clear l
  refine ⟨_, rfl, K, ?_⟩
  simp only [Act.put, List.setIfInBounds_toArray, List.set_cons_zero, List.set_cons_succ]
  refine callH (i := 17) (some 64) rfl (by kernel_rfl) rfl rfl (fun _ => by kernel_rfl) (sqz (f16) (s16.1) _ (hg.below K.below hg.size)) ?_
  rintro e w17 ⟨f17, rfl, s17, l⟩
  have K := K.call l
  clear l
  refine ⟨_, rfl, K, ?_⟩
  simp only [Act.put, List.setIfInBounds_toArray, List.set_cons_zero, List.set_cons_succ]
  refine callH (i := 18) (some 65) rfl (by kernel_rfl) rfl rfl (fun _ => by kernel_rfl) (mulz (u) (f17) (hu) (s17.1) _ (hg.below K.below hg.size)) ?_
  rintro e w18 ⟨f18, rfl, s18, l⟩
  have K := K.call l
  clear l
  refine ⟨_, rfl, K, ?_⟩
  simp only [Act.put, List.setIfInBounds_toArray, List.set_cons_zero, List.set_cons_succ]
  refine pureH (i := 19) (some 66) rfl (.agg (row .u8 128 (glue (f10) (f13) (f15) (f18))).toArray) rfl rfl (fun _ => by kernel_rfl) (by kernel_rfl) (by kernel_rfl) (by kernel_rfl) (fun _ _ _ h => h) K ?_
  simp only [Act.put, List.setIfInBounds_toArray, List.set_cons_zero, List.set_cons_succ]
  refine storesH (i := 20) (none) rfl .u8 128 (glue (f10) (f13) (f15) (f18)) (w.heap.size + 1 + 1) 33 _ _ (by kernel_rfl) rfl rfl rfl rfl rfl (K.roomy _ _ _ List.mem_cons_self) (rung_info' _) (K.fill _ _ List.mem_cons_self _) ?_
  simp only [Act.put]
  refine wpAnyH_done (by kernel_rfl) ?_ _
  have hO := (K.room _ List.mem_cons_self).1
  have hL := (K.fill _ _ List.mem_cons_self (row .u8 128 (glue (f10) (f13) (f15) (f18)))).below
  clear K
  go_wp2
  exact bodyPost_ret (v := .agg (row .u8 128 (glue (f10) (f13) (f15) (f18))).toArray) (results_row Tryd.results14 rfl (Has.all hO .u8 (glue (f10) (f13) (f15) (f18))).range Tryd.underlying33 rfl (rung_info _)) rfl ⟨f10, f13, f15, f18, rfl, ⟨s10.1, s13.1, s15.1, s18.1, by unfold stz Ed.climb; simp only; rw [s18.2, s17.2, s16.2, s15.2, s14.2, s13.2, s12.2, s11.2, s10.2, s9.2, s8.2, s7.2, s6.2, s5.2, s4.2, s3.2, s2.2, s1.2]⟩, hL⟩
end Go.Proofs.YthephehecapmhabDoor
