/- The head of all statements of this layer: the document's examples hold. -/
import Derived.Test.YtjddngedifgneacDoorApi
import Derived.Test.YtjddngedifgneacDoorCanon
import Derived.Test.YtjddngedifgneacDoorFill
import Derived.Test.YtjddngedifgneacDoorPrime
import Derived.Deep.Cut
namespace Go.Proofs.YtjddngedifgneacDoor
open Go.RowKit

theorem byte_in (x : Int) (h0 : 0 ≤ x) (h1 : x < 256) : In 256 32 (one x)
  | 0, _ => ⟨h0, h1⟩
  | _ + 1, _ => ⟨Int.le_refl 0, (by decide : (0 : Int) < 256)⟩

/-- A power of a number from 0 on, modulo 2^255 - 19, reckoned. -/
theorem pow_pm (x : Nat) : (x : Int) ^ E % Q = ((Num.pm 57896044618658097711785492504343953926634992332820282019728792003956564819949 256 x E : Nat) : Int) := by
  rw [Num.pm_eq _ 256 x E (by decide +kernel), Int.natCast_emod, Int.natCast_pow]
  rfl
theorem inv_two : val 256 (one 2) 32 ^ E % Q = val 256 (fil 247 255 63) 32 := by
  rw [show val 256 (one 2) 32 = ((2 : Nat) : Int) from by decide +kernel, pow_pm]
  decide +kernel
theorem inv_zero : val 256 (fil 237 255 127) 32 ^ E % Q = val 256 (one 0) 32 := by
  rw [show val 256 (fil 237 255 127) 32 = ((57896044618658097711785492504343953926634992332820282019728792003956564819949 : Nat) : Int) from by decide +kernel, pow_pm]
  decide +kernel

set_option maxRecDepth 10000 in
set_option maxHeartbeats 4000000 in
theorem shown_any (w : World) (hg : Glob w) :
    Calls Tryd.prog 8 #[] w fun e w' => e = .returned (.bool true) ∧ Below w.heap.size w w' := by
  have L := Below.refl w.heap.size w
  go_enter Tryd.func8, Tryd.ntmps8
  go_upto_region 1 with fail
  refine wp_region_list ?_
  refine callL rfl (fun _ => by kernel_rfl) (filled_any 237 255 127 _) ?_
  rintro e w1 ⟨rfl, l⟩
  have hg := hg.below l hg.size
  have L := L.trans (l.mono L.size)
  clear l
  refine ⟨_, rfl, ?_⟩
  simp only [Act.put, List.setIfInBounds_toArray, List.set_cons_zero, List.set_cons_succ]
  refine callL rfl (fun _ => by kernel_rfl) (canon_any (fil 237 255 127) (fil_in 237 255 127 (by decide) (by decide) (by decide)) _ hg) ?_
  rintro e w2 ⟨f1, rfl, s1, l⟩
  have hg := hg.below l hg.size
  have L := L.trans (l.mono L.size)
  clear l
  refine ⟨_, rfl, ?_⟩
  simp only [Act.put, List.setIfInBounds_toArray, List.set_cons_zero, List.set_cons_succ]
  refine pureL (.agg (row .u8 32 (one 0)).toArray) rfl (fun _ => by kernel_rfl) ?_
  simp only [Act.put, List.setIfInBounds_toArray, List.set_cons_zero, List.set_cons_succ]
  refine pureL (.bool true) rfl (fun w => eqlV 32 (f1) (one 0) 23 5 _ _ _ rfl rfl rfl Tryd.underlying23 Tryd.underlying5 (fun _ => by kernel_rfl) (by kernel_rfl) s1.1 (byte_in 0 (by decide) (by decide)) true (decide_eq_true (by rw [s1.2]; decide +kernel)) w) ?_
  simp only [Act.put, List.setIfInBounds_toArray, List.set_cons_zero, List.set_cons_succ]
  refine pureL (.bool true) rfl (fun _ => by kernel_rfl) ?_
  simp only [Act.put, List.setIfInBounds_toArray, List.set_cons_zero, List.set_cons_succ]
  refine callL rfl (fun _ => by kernel_rfl) (filled_any 255 255 255 _) ?_
  rintro e w3 ⟨rfl, l⟩
  have hg := hg.below l hg.size
  have L := L.trans (l.mono L.size)
  clear l
  refine ⟨_, rfl, ?_⟩
  simp only [Act.put, List.setIfInBounds_toArray, List.set_cons_zero, List.set_cons_succ]
  refine callL rfl (fun _ => by kernel_rfl) (canon_any (fil 255 255 255) (fil_in 255 255 255 (by decide) (by decide) (by decide)) _ hg) ?_
  rintro e w4 ⟨f2, rfl, s2, l⟩
  have hg := hg.below l hg.size
  have L := L.trans (l.mono L.size)
  clear l
  refine ⟨_, rfl, ?_⟩
  simp only [Act.put, List.setIfInBounds_toArray, List.set_cons_zero, List.set_cons_succ]
  refine pureL (.agg (row .u8 32 (one 37)).toArray) rfl (fun _ => by kernel_rfl) ?_
  simp only [Act.put, List.setIfInBounds_toArray, List.set_cons_zero, List.set_cons_succ]
  refine pureL (.bool true) rfl (fun w => eqlV 32 (f2) (one 37) 23 5 _ _ _ rfl rfl rfl Tryd.underlying23 Tryd.underlying5 (fun _ => by kernel_rfl) (by kernel_rfl) s2.1 (byte_in 37 (by decide) (by decide)) true (decide_eq_true (by rw [s2.2]; decide +kernel)) w) ?_
  simp only [Act.put, List.setIfInBounds_toArray, List.set_cons_zero, List.set_cons_succ]
  refine pureL (.bool true) rfl (fun _ => by kernel_rfl) ?_
  simp only [Act.put, List.setIfInBounds_toArray, List.set_cons_zero, List.set_cons_succ]
  refine pureL (.bool true) rfl (fun _ => by kernel_rfl) ?_
  simp only [Act.put, List.setIfInBounds_toArray, List.set_cons_zero, List.set_cons_succ]
  refine pureL (.agg (row .u8 32 (one 0)).toArray) rfl (fun _ => by kernel_rfl) ?_
  simp only [Act.put, List.setIfInBounds_toArray, List.set_cons_zero, List.set_cons_succ]
  refine pureL (.agg (row .u8 32 (one 1)).toArray) rfl (fun _ => by kernel_rfl) ?_
  simp only [Act.put, List.setIfInBounds_toArray, List.set_cons_zero, List.set_cons_succ]
  refine callL rfl (fun _ => by kernel_rfl) (sub_any (one 0) (one 1) (byte_in 0 (by decide) (by decide)) (byte_in 1 (by decide) (by decide)) _ hg) ?_
  rintro e w5 ⟨f3, rfl, s3, l⟩
  have hg := hg.below l hg.size
  have L := L.trans (l.mono L.size)
  clear l
  refine ⟨_, rfl, ?_⟩
  simp only [Act.put, List.setIfInBounds_toArray, List.set_cons_zero, List.set_cons_succ]
  refine callL rfl (fun _ => by kernel_rfl) (filled_any 236 255 127 _) ?_
  rintro e w6 ⟨rfl, l⟩
  have hg := hg.below l hg.size
  have L := L.trans (l.mono L.size)
  clear l
  refine ⟨_, rfl, ?_⟩
  simp only [Act.put, List.setIfInBounds_toArray, List.set_cons_zero, List.set_cons_succ]
  refine pureL (.bool true) rfl (fun w => eqlV 32 (f3) (fil 236 255 127) 23 5 _ _ _ rfl rfl rfl Tryd.underlying23 Tryd.underlying5 (fun _ => by kernel_rfl) (by kernel_rfl) s3.1 (fil_in 236 255 127 (by decide) (by decide) (by decide)) true (decide_eq_true (by rw [s3.2]; decide +kernel)) w) ?_
  simp only [Act.put, List.setIfInBounds_toArray, List.set_cons_zero, List.set_cons_succ]
  refine pureL (.bool true) rfl (fun _ => by kernel_rfl) ?_
  simp only [Act.put, List.setIfInBounds_toArray, List.set_cons_zero, List.set_cons_succ]
  refine pureL (.bool true) rfl (fun _ => by kernel_rfl) ?_
  simp only [Act.put, List.setIfInBounds_toArray, List.set_cons_zero, List.set_cons_succ]
  refine pureL (.agg (row .u8 32 (one 2)).toArray) rfl (fun _ => by kernel_rfl) ?_
  simp only [Act.put, List.setIfInBounds_toArray, List.set_cons_zero, List.set_cons_succ]
  refine callL rfl (fun _ => by kernel_rfl) (filled_any 0 0 128 _) ?_
  rintro e w7 ⟨rfl, l⟩
  have hg := hg.below l hg.size
  have L := L.trans (l.mono L.size)
  clear l
  refine ⟨_, rfl, ?_⟩
  simp only [Act.put, List.setIfInBounds_toArray, List.set_cons_zero, List.set_cons_succ]
  refine callL rfl (fun _ => by kernel_rfl) (mul_any (one 2) (fil 0 0 128) (byte_in 2 (by decide) (by decide)) (fil_in 0 0 128 (by decide) (by decide) (by decide)) _ hg) ?_
  rintro e w8 ⟨f4, rfl, s4, l⟩
  have hg := hg.below l hg.size
  have L := L.trans (l.mono L.size)
  clear l
  refine ⟨_, rfl, ?_⟩
  simp only [Act.put, List.setIfInBounds_toArray, List.set_cons_zero, List.set_cons_succ]
  refine pureL (.agg (row .u8 32 (one 38)).toArray) rfl (fun _ => by kernel_rfl) ?_
  simp only [Act.put, List.setIfInBounds_toArray, List.set_cons_zero, List.set_cons_succ]
  refine pureL (.bool true) rfl (fun w => eqlV 32 (f4) (one 38) 23 5 _ _ _ rfl rfl rfl Tryd.underlying23 Tryd.underlying5 (fun _ => by kernel_rfl) (by kernel_rfl) s4.1 (byte_in 38 (by decide) (by decide)) true (decide_eq_true (by rw [s4.2]; decide +kernel)) w) ?_
  simp only [Act.put, List.setIfInBounds_toArray, List.set_cons_zero, List.set_cons_succ]
  refine pureL (.bool true) rfl (fun _ => by kernel_rfl) ?_
  simp only [Act.put, List.setIfInBounds_toArray, List.set_cons_zero, List.set_cons_succ]
  refine pureL (.bool true) rfl (fun _ => by kernel_rfl) ?_
  simp only [Act.put, List.setIfInBounds_toArray, List.set_cons_zero, List.set_cons_succ]
  refine pureL (.agg (row .u8 32 (one 2)).toArray) rfl (fun _ => by kernel_rfl) ?_
  simp only [Act.put, List.setIfInBounds_toArray, List.set_cons_zero, List.set_cons_succ]
  refine callL rfl (fun _ => by kernel_rfl) (invert_any (one 2) (byte_in 2 (by decide) (by decide)) _ hg) ?_
  rintro e w9 ⟨f5, rfl, s5, l⟩
  have hg := hg.below l hg.size
  have L := L.trans (l.mono L.size)
  clear l
  refine ⟨_, rfl, ?_⟩
  simp only [Act.put, List.setIfInBounds_toArray, List.set_cons_zero, List.set_cons_succ]
  refine callL rfl (fun _ => by kernel_rfl) (filled_any 247 255 63 _) ?_
  rintro e w10 ⟨rfl, l⟩
  have hg := hg.below l hg.size
  have L := L.trans (l.mono L.size)
  clear l
  refine ⟨_, rfl, ?_⟩
  simp only [Act.put, List.setIfInBounds_toArray, List.set_cons_zero, List.set_cons_succ]
  refine pureL (.bool true) rfl (fun w => eqlV 32 (f5) (fil 247 255 63) 23 5 _ _ _ rfl rfl rfl Tryd.underlying23 Tryd.underlying5 (fun _ => by kernel_rfl) (by kernel_rfl) s5.1 (fil_in 247 255 63 (by decide) (by decide) (by decide)) true (decide_eq_true (s5.2.trans inv_two)) w) ?_
  simp only [Act.put, List.setIfInBounds_toArray, List.set_cons_zero, List.set_cons_succ]
  refine pureL (.bool true) rfl (fun _ => by kernel_rfl) ?_
  simp only [Act.put, List.setIfInBounds_toArray, List.set_cons_zero, List.set_cons_succ]
  refine pureL (.bool true) rfl (fun _ => by kernel_rfl) ?_
  simp only [Act.put, List.setIfInBounds_toArray, List.set_cons_zero, List.set_cons_succ]
  refine callL rfl (fun _ => by kernel_rfl) (filled_any 237 255 127 _) ?_
  rintro e w11 ⟨rfl, l⟩
  have hg := hg.below l hg.size
  have L := L.trans (l.mono L.size)
  clear l
  refine ⟨_, rfl, ?_⟩
  simp only [Act.put, List.setIfInBounds_toArray, List.set_cons_zero, List.set_cons_succ]
  refine callL rfl (fun _ => by kernel_rfl) (invert_any (fil 237 255 127) (fil_in 237 255 127 (by decide) (by decide) (by decide)) _ hg) ?_
  rintro e w12 ⟨f6, rfl, s6, l⟩
  have hg := hg.below l hg.size
  have L := L.trans (l.mono L.size)
  clear l
  refine ⟨_, rfl, ?_⟩
  simp only [Act.put, List.setIfInBounds_toArray, List.set_cons_zero, List.set_cons_succ]
  refine pureL (.agg (row .u8 32 (one 0)).toArray) rfl (fun _ => by kernel_rfl) ?_
  simp only [Act.put, List.setIfInBounds_toArray, List.set_cons_zero, List.set_cons_succ]
  refine pureL (.bool true) rfl (fun w => eqlV 32 (f6) (one 0) 23 5 _ _ _ rfl rfl rfl Tryd.underlying23 Tryd.underlying5 (fun _ => by kernel_rfl) (by kernel_rfl) s6.1 (byte_in 0 (by decide) (by decide)) true (decide_eq_true (s6.2.trans inv_zero)) w) ?_
  simp only [Act.put, List.setIfInBounds_toArray, List.set_cons_zero, List.set_cons_succ]
  refine pureL (.bool true) rfl (fun _ => by kernel_rfl) ?_
  simp only [Act.put, List.setIfInBounds_toArray, List.set_cons_zero, List.set_cons_succ]
  refine pureL (.bool true) rfl (fun _ => by kernel_rfl) ?_
  simp only [Act.put, List.setIfInBounds_toArray, List.set_cons_zero]
  show Exit.then _ _ _ _ _
  go_wp2
  go_ret
  exact ⟨rfl, L⟩
end Go.Proofs.YtjddngedifgneacDoor
