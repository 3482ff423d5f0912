/- The walk of KdfEpochs. -/
import Derived.Test.YtcdbkbcfjdpdoaaDoorG4
namespace Go.Proofs.YtcdbkbcfjdpdoaaDoor
open Go.RowKit

set_option maxRecDepth 10000 in
set_option maxHeartbeats 16000000 in
theorem law_KdfEpochs (k : Nat → Int) (hk : In 256 32 k) (w : World) (hg : BGlob w) :
    Calls Tryd.prog 7 #[(.agg (row .u8 32 (k)).toArray)] w fun e w' => e = .returned (.bool true) ∧ Below w.heap.size w w' := by
  have K := Kr.init w
  replace K := K.box .u8 32 k 25 (w.heap.size) rfl
  go_enter Tryd.func7, Tryd.ntmps7
  go_upto_region 1 with fail
  generalize (w.alloc (.cells (row .u8 32 k).toArray 25)) = w0 at K ⊢
  refine wp_region_list ?_
  refine callL rfl (fun _ => by kernel_rfl) (kshown_any _ (hg.below K.below hg.size)) ?_
  rintro e w1 ⟨rfl, l⟩
  replace K := K.call l
  clear l
  refine ⟨_, rfl, ?_⟩
  simp only [Act.put, List.setIfInBounds_toArray, List.set_cons_zero, List.set_cons_succ]
  refine pureL (.bool true) rfl (fun _ => by kernel_rfl) ?_
  simp only [Act.put, List.setIfInBounds_toArray, List.set_cons_zero, List.set_cons_succ]
  show Exit.then _ _ _ _ _
  go_upto_region 2 with fail
  refine wp_region_list ?_
  refine rowKL .u8 32 (k) (w.heap.size) 0 25 _ _ rfl rfl rfl Tryd.underlying25 rfl (key_info _) ((K.get _ _ _ _ List.mem_cons_self).range) ?_
  simp only [Act.put, List.setIfInBounds_toArray, List.set_cons_zero, List.set_cons_succ]
  refine allocL #[.int .u8 0, .int .u8 0, .int .u8 0, .int .u8 0, .int .u8 0, .int .u8 0, .int .u8 0, .int .u8 0, .int .u8 0, .int .u8 0, .int .u8 0, .int .u8 0, .int .u8 0, .int .u8 0, .int .u8 0, .int .u8 0, .int .u8 0, .int .u8 0, .int .u8 0, .int .u8 0, .int .u8 0, .int .u8 0, .int .u8 0, .int .u8 0, .int .u8 0, .int .u8 0, .int .u8 0, .int .u8 0, .int .u8 0, .int .u8 0, .int .u8 0, .int .u8 0] 25 rfl (fun _ => by kernel_rfl) ?_
  simp only [Act.put, List.setIfInBounds_toArray, List.set_cons_zero, List.set_cons_succ]
  refine storesL .u8 32 (k) w1.heap.size 25 _ _ rfl rfl rfl rfl (room_of (key_zero _ _ _ rfl).there) (key_info' _) ?_
  simp only [Act.put]
  have zX := K.size
  replace K := K.fresh .u8 32 (k) #[.int .u8 0, .int .u8 0, .int .u8 0, .int .u8 0, .int .u8 0, .int .u8 0, .int .u8 0, .int .u8 0, .int .u8 0, .int .u8 0, .int .u8 0, .int .u8 0, .int .u8 0, .int .u8 0, .int .u8 0, .int .u8 0, .int .u8 0, .int .u8 0, .int .u8 0, .int .u8 0, .int .u8 0, .int .u8 0, .int .u8 0, .int .u8 0, .int .u8 0, .int .u8 0, .int .u8 0, .int .u8 0, .int .u8 0, .int .u8 0, .int .u8 0, .int .u8 0] 25 (key_zero _ _ _ rfl).there
  generalize ((w1.alloc (.cells #[.int .u8 0, .int .u8 0, .int .u8 0, .int .u8 0, .int .u8 0, .int .u8 0, .int .u8 0, .int .u8 0, .int .u8 0, .int .u8 0, .int .u8 0, .int .u8 0, .int .u8 0, .int .u8 0, .int .u8 0, .int .u8 0, .int .u8 0, .int .u8 0, .int .u8 0, .int .u8 0, .int .u8 0, .int .u8 0, .int .u8 0, .int .u8 0, .int .u8 0, .int .u8 0, .int .u8 0, .int .u8 0, .int .u8 0, .int .u8 0, .int .u8 0, .int .u8 0] 25)).setCells w1.heap.size 0 (row .u8 32 (k))) = w2 at K ⊢
  generalize w1.heap.size = X at *
  show Exit.then _ _ _ _ _
  go_wp2
  go_loopw [5] (fun i w' => ∃ (m : Nat) (f : Nat → Int), m ≤ 3 ∧ i = .int .i64 m ∧ In 256 32 f ∧ Kr w (X + 1) [(X, .u8, 32, f), (w.heap.size, .u8, 32, k)] [] w') (fun i _ => 3 - (intOf i).toNat)
  case atStart => exact ⟨0, k, by omega, rfl, hk, K⟩
  case round =>
    clear K
    obtain ⟨m, f, hm, rfl, hf, K⟩ := hrel
    have g1 : (0 : Int) ≤ (m : Int) := by omega
    by_cases hlt : m < 3
    · have g2 : (m : Int) < 3 := by omega
      go_upto_region 6 with fail
      refine wp_region_held_drew (S := fun w' => Kr w (X + 1) [(X, .u8, 32, f), (w.heap.size, .u8, 32, k)] [] w') (by kernel_rfl) K.drew ?_
      clear K
      intro K
      refine rowKH (i := 0) (some 12) rfl .u8 32 (f) (X) 0 25 _ _ rfl rfl rfl rfl (by kernel_rfl) (by kernel_rfl) (by kernel_rfl) (fun _ _ _ h => h) Tryd.underlying25 rfl (key_info _) K (fun _ h => (h.get _ _ _ _ List.mem_cons_self).range) ?_
      simp only [Act.put, List.setIfInBounds_toArray, List.set_cons_zero, List.set_cons_succ]
      refine rowKH (i := 2) (some 14) rfl .u8 32 (f) (X) 0 25 _ _ rfl rfl rfl rfl (by kernel_rfl) (by kernel_rfl) (by kernel_rfl) (fun _ _ _ h => h) Tryd.underlying25 rfl (key_info _) K (fun _ h => (h.get _ _ _ _ List.mem_cons_self).range) ?_
      simp only [Act.put, List.setIfInBounds_toArray, List.set_cons_zero, List.set_cons_succ]
      refine callH (i := 1) (some 13) rfl (by kernel_rfl) rfl rfl (fun _ => by kernel_rfl) (kof_any f hf _ (hg.below K.below hg.size)) ?_
      rintro e w3 ⟨rfl, l⟩
      replace K := K.call l
      clear l
      refine ⟨_, rfl, K, ?_⟩
      simp only [Act.put, List.setIfInBounds_toArray, List.set_cons_zero, List.set_cons_succ]
      refine callH (i := 3) (some 15) rfl (by kernel_rfl) rfl rfl (fun _ => by kernel_rfl) (krefOf_any f hf _) ?_
      rintro e w4 ⟨rfl, l⟩
      replace K := K.call l
      clear l
      refine ⟨_, rfl, K, ?_⟩
      simp only [Act.put, List.setIfInBounds_toArray, List.set_cons_zero, List.set_cons_succ]
      refine pureH (i := 4) (some 16) rfl (.bool false) rfl rfl (fun w => neqV 32 (kT f 10 (zs sKey) 1) (kT f 10 (zs sKey) 1) 25 5 _ _ _ rfl rfl rfl Tryd.underlying25 Tryd.underlying5 (fun _ => by kernel_rfl) (by kernel_rfl) (kT_in _ _ _ _ _) (kT_in _ _ _ _ _) false (by rw [decide_eq_true rfl]; rfl) w) (by kernel_rfl) (by kernel_rfl) (by kernel_rfl) (fun _ _ _ h => h) K ?_
      simp only [Act.put, List.setIfInBounds_toArray, List.set_cons_zero, List.set_cons_succ]
      refine pureH (i := 5) (some 17) rfl (.bool false) rfl rfl (fun _ => by kernel_rfl) (by kernel_rfl) (by kernel_rfl) (by kernel_rfl) (fun _ _ _ h => h) K ?_
      simp only [Act.put, List.setIfInBounds_toArray, List.set_cons_zero, List.set_cons_succ]
      refine rowKH (i := 6) (some 18) rfl .u8 32 (f) (X) 0 25 _ _ rfl rfl rfl rfl (by kernel_rfl) (by kernel_rfl) (by kernel_rfl) (fun _ _ _ h => h) Tryd.underlying25 rfl (key_info _) K (fun _ h => (h.get _ _ _ _ List.mem_cons_self).range) ?_
      simp only [Act.put, List.setIfInBounds_toArray, List.set_cons_zero, List.set_cons_succ]
      refine rowKH (i := 8) (some 20) rfl .u8 32 (f) (X) 0 25 _ _ rfl rfl rfl rfl (by kernel_rfl) (by kernel_rfl) (by kernel_rfl) (fun _ _ _ h => h) Tryd.underlying25 rfl (key_info _) K (fun _ h => (h.get _ _ _ _ List.mem_cons_self).range) ?_
      simp only [Act.put, List.setIfInBounds_toArray, List.set_cons_zero, List.set_cons_succ]
      refine callH (i := 7) (some 19) rfl (by kernel_rfl) rfl rfl (fun _ => by kernel_rfl) (klater_any f hf _ (hg.below K.below hg.size)) ?_
      rintro e w5 ⟨rfl, l⟩
      replace K := K.call l
      clear l
      refine ⟨_, rfl, K, ?_⟩
      simp only [Act.put, List.setIfInBounds_toArray, List.set_cons_zero, List.set_cons_succ]
      refine callH (i := 9) (some 21) rfl (by kernel_rfl) rfl rfl (fun _ => by kernel_rfl) (krefLater_any f hf _) ?_
      rintro e w6 ⟨rfl, l⟩
      replace K := K.call l
      clear l
      refine ⟨_, rfl, K, ?_⟩
      simp only [Act.put, List.setIfInBounds_toArray, List.set_cons_zero, List.set_cons_succ]
      refine pureH (i := 10) (some 22) rfl (.bool false) rfl rfl (fun w => neqV 32 (kT f 12 (zs sLater) 1) (kT f 12 (zs sLater) 1) 25 5 _ _ _ rfl rfl rfl Tryd.underlying25 Tryd.underlying5 (fun _ => by kernel_rfl) (by kernel_rfl) (kT_in _ _ _ _ _) (kT_in _ _ _ _ _) false (by rw [decide_eq_true rfl]; rfl) w) (by kernel_rfl) (by kernel_rfl) (by kernel_rfl) (fun _ _ _ h => h) K ?_
      simp only [Act.put, List.setIfInBounds_toArray, List.set_cons_zero, List.set_cons_succ]
      refine pureH (i := 11) (some 23) rfl (.bool false) rfl rfl (fun _ => by kernel_rfl) (by kernel_rfl) (by kernel_rfl) (by kernel_rfl) (fun _ _ _ h => h) K ?_
      simp only [Act.put, List.setIfInBounds_toArray, List.set_cons_zero, List.set_cons_succ]
      refine wpAnyH_done (by kernel_rfl) ?_ _
      show Exit.then _ _ _ _ _
      go_upto_region 8 with fail
      refine wp_region_list ?_
      refine rowKL .u8 32 (f) (X) 0 25 _ _ rfl rfl rfl Tryd.underlying25 rfl (key_info _) ((K.get _ _ _ _ List.mem_cons_self).range) ?_
      simp only [Act.put, List.setIfInBounds_toArray, List.set_cons_zero, List.set_cons_succ]
      refine callL rfl (fun _ => by kernel_rfl) (klater_any f hf _ (hg.below K.below hg.size)) ?_
      rintro e w7 ⟨rfl, l⟩
      replace K := K.call l
      clear l
      refine ⟨_, rfl, ?_⟩
      simp only [Act.put, List.setIfInBounds_toArray, List.set_cons_zero, List.set_cons_succ]
      refine storesL .u8 32 (kT f 12 (zs sLater) 1) X 25 _ _ rfl rfl rfl rfl (room_of (K.get _ _ _ _ List.mem_cons_self).there) (key_info' _) ?_
      simp only [Act.put]
      replace K := K.set [(w.heap.size, .u8, 32, k)] X .u8 32 f (kT f 12 (zs sLater) 1) List.mem_cons_self (fun p hp => by obtain rfl := List.mem_singleton.1 hp; exact (List.mem_cons_of_mem _ List.mem_cons_self)) (fun p hp => by obtain rfl := List.mem_singleton.1 hp; simp only; omega) (by omega)
      generalize w7.setCells X 0 (row .u8 32 (kT f 12 (zs sLater) 1)) = w8 at K ⊢
      have HS := show Hid _ from (And.intro (kT_in f 12 (zs sLater) 32 1) K)
      clear K hf
      generalize kT f 12 (zs sLater) 1 = f2 at HS ⊢
      show Exit.inBlock _ _ _ _ _
      go_wp2
      go_roundw
      case rel => first | exact ⟨m + 1, f2, by omega, by go_num, HS.out.1, HS.out.2⟩ | ((repeat apply Exists.intro); refine ⟨⟨m + 1, f2, by omega, by go_num, HS.out.1, HS.out.2⟩, rfl⟩)
      case measure => simp [intOf]; omega
    · have g2 : ¬ (m : Int) < 3 := by omega
      have hB := K.below
      clear K
      go_wp2
      go_ret
      exact ⟨rfl, hB⟩
end Go.Proofs.YtcdbkbcfjdpdoaaDoor
