/- The walk of KdfChains. -/
import Derived.Test.YtcdbkbcfjdpdoaaDoorG4
namespace Go.Proofs.YtcdbkbcfjdpdoaaDoor
open Go.RowKit

set_option maxRecDepth 10000 in
set_option maxHeartbeats 16000000 in
theorem law_KdfChains (k : Nat → Int) (hk : In 256 32 k) (sp : Option Addr) (len cap : Nat) (hlb : len ≤ 140737488351232) (hcb : len ≤ cap) (hnb : sp = none → cap = 0) (z : Nat → Int) (hib : In 256 len z) (w : World) (hg : BGlob w) (hsb : Src w sp len z) :
    Calls Tryd.prog 6 #[(.agg (row .u8 32 (k)).toArray), .slice sp len cap] w fun e w' => e = .returned (.bool true) ∧ Below w.heap.size w w' := by
  have K := Kr.init w
  replace K := K.box .u8 32 k 25 (w.heap.size) rfl
  go_enter Tryd.func6, Tryd.ntmps6
  go_upto_region 1 with fail
  generalize (w.alloc (.cells (row .u8 32 k).toArray 25)) = w0 at K ⊢
  refine wp_region_list ?_
  refine callL rfl (fun _ => by kernel_rfl) (kshown_any _ (hg.below K.below hg.size)) ?_
  rintro e w1 ⟨rfl, l⟩
  replace K := K.call l
  clear l
  refine ⟨_, rfl, ?_⟩
  simp only [Act.put, List.setIfInBounds_toArray, List.set_cons_zero, List.set_cons_succ]
  refine pureL (.bool true) rfl (fun _ => by kernel_rfl) ?_
  simp only [Act.put, List.setIfInBounds_toArray, List.set_cons_zero, List.set_cons_succ]
  show Exit.then _ _ _ _ _
  go_upto_region 2 with fail
  refine wp_region_list ?_
  refine rowKL .u8 32 (k) (w.heap.size) 0 25 _ _ rfl rfl rfl Tryd.underlying25 rfl (key_info _) ((K.get _ _ _ _ List.mem_cons_self).range) ?_
  simp only [Act.put, List.setIfInBounds_toArray, List.set_cons_zero, List.set_cons_succ]
  refine pureL (.slice sp len cap) rfl (fun _ => by kernel_rfl) ?_
  simp only [Act.put, List.setIfInBounds_toArray, List.set_cons_zero, List.set_cons_succ]
  refine callL rfl (fun _ => by kernel_rfl) (kchain_any k hk sp len cap hlb hcb hnb z hib _ (hg.below K.below hg.size) (hsb.below K.below (Nat.le_refl _))) ?_
  rintro e w2 ⟨rfl, l⟩
  replace K := K.call l
  clear l
  refine ⟨_, rfl, ?_⟩
  simp only [Act.put, List.setIfInBounds_toArray, List.set_cons_zero, List.set_cons_succ]
  refine pureL (.tuple #[(.agg (row .u8 32 (kA k len z)).toArray), (.agg (row .u8 32 (kB k len z)).toArray)]) rfl (fun _ => by kernel_rfl) ?_
  simp only [Act.put, List.setIfInBounds_toArray, List.set_cons_zero, List.set_cons_succ]
  refine pureL (.agg (row .u8 32 (kA k len z)).toArray) rfl (fun _ => by kernel_rfl) ?_
  simp only [Act.put, List.setIfInBounds_toArray, List.set_cons_zero, List.set_cons_succ]
  refine pureL (.agg (row .u8 32 (kB k len z)).toArray) rfl (fun _ => by kernel_rfl) ?_
  simp only [Act.put, List.setIfInBounds_toArray, List.set_cons_zero, List.set_cons_succ]
  refine allocL #[.int .u8 0, .int .u8 0, .int .u8 0, .int .u8 0, .int .u8 0, .int .u8 0, .int .u8 0, .int .u8 0, .int .u8 0, .int .u8 0, .int .u8 0, .int .u8 0, .int .u8 0, .int .u8 0, .int .u8 0, .int .u8 0, .int .u8 0, .int .u8 0, .int .u8 0, .int .u8 0, .int .u8 0, .int .u8 0, .int .u8 0, .int .u8 0, .int .u8 0, .int .u8 0, .int .u8 0, .int .u8 0, .int .u8 0, .int .u8 0, .int .u8 0, .int .u8 0] 25 rfl (fun _ => by kernel_rfl) ?_
  simp only [Act.put, List.setIfInBounds_toArray, List.set_cons_zero, List.set_cons_succ]
  have zP := K.size
  replace K := K.make 32 #[.int .u8 0, .int .u8 0, .int .u8 0, .int .u8 0, .int .u8 0, .int .u8 0, .int .u8 0, .int .u8 0, .int .u8 0, .int .u8 0, .int .u8 0, .int .u8 0, .int .u8 0, .int .u8 0, .int .u8 0, .int .u8 0, .int .u8 0, .int .u8 0, .int .u8 0, .int .u8 0, .int .u8 0, .int .u8 0, .int .u8 0, .int .u8 0, .int .u8 0, .int .u8 0, .int .u8 0, .int .u8 0, .int .u8 0, .int .u8 0, .int .u8 0, .int .u8 0] 25 w2.heap.size rfl (key_zero _ _ _ rfl).there
  generalize w2.alloc (.cells #[.int .u8 0, .int .u8 0, .int .u8 0, .int .u8 0, .int .u8 0, .int .u8 0, .int .u8 0, .int .u8 0, .int .u8 0, .int .u8 0, .int .u8 0, .int .u8 0, .int .u8 0, .int .u8 0, .int .u8 0, .int .u8 0, .int .u8 0, .int .u8 0, .int .u8 0, .int .u8 0, .int .u8 0, .int .u8 0, .int .u8 0, .int .u8 0, .int .u8 0, .int .u8 0, .int .u8 0, .int .u8 0, .int .u8 0, .int .u8 0, .int .u8 0, .int .u8 0] 25) = w3 at K ⊢
  generalize w2.heap.size = P at *
  refine allocL #[.int .u8 0, .int .u8 0, .int .u8 0, .int .u8 0, .int .u8 0, .int .u8 0, .int .u8 0, .int .u8 0, .int .u8 0, .int .u8 0, .int .u8 0, .int .u8 0, .int .u8 0, .int .u8 0, .int .u8 0, .int .u8 0, .int .u8 0, .int .u8 0, .int .u8 0, .int .u8 0, .int .u8 0, .int .u8 0, .int .u8 0, .int .u8 0, .int .u8 0, .int .u8 0, .int .u8 0, .int .u8 0, .int .u8 0, .int .u8 0, .int .u8 0, .int .u8 0] 25 rfl (fun _ => by kernel_rfl) ?_
  simp only [Act.put, List.setIfInBounds_toArray, List.set_cons_zero, List.set_cons_succ]
  have zR := K.size
  replace K := K.make 32 #[.int .u8 0, .int .u8 0, .int .u8 0, .int .u8 0, .int .u8 0, .int .u8 0, .int .u8 0, .int .u8 0, .int .u8 0, .int .u8 0, .int .u8 0, .int .u8 0, .int .u8 0, .int .u8 0, .int .u8 0, .int .u8 0, .int .u8 0, .int .u8 0, .int .u8 0, .int .u8 0, .int .u8 0, .int .u8 0, .int .u8 0, .int .u8 0, .int .u8 0, .int .u8 0, .int .u8 0, .int .u8 0, .int .u8 0, .int .u8 0, .int .u8 0, .int .u8 0] 25 w3.heap.size rfl (key_zero _ _ _ rfl).there
  generalize w3.alloc (.cells #[.int .u8 0, .int .u8 0, .int .u8 0, .int .u8 0, .int .u8 0, .int .u8 0, .int .u8 0, .int .u8 0, .int .u8 0, .int .u8 0, .int .u8 0, .int .u8 0, .int .u8 0, .int .u8 0, .int .u8 0, .int .u8 0, .int .u8 0, .int .u8 0, .int .u8 0, .int .u8 0, .int .u8 0, .int .u8 0, .int .u8 0, .int .u8 0, .int .u8 0, .int .u8 0, .int .u8 0, .int .u8 0, .int .u8 0, .int .u8 0, .int .u8 0, .int .u8 0] 25) = w3a at K ⊢
  generalize w3.heap.size = R at *
  refine storesL .u8 32 (kA k len z) P 25 _ _ rfl rfl rfl rfl (room_of (K.room _ (List.mem_cons_of_mem _ List.mem_cons_self)).1) (key_info' _) ?_
  simp only [Act.put]
  have HA := Has.all (K.room _ (List.mem_cons_of_mem _ List.mem_cons_self)).1 .u8 (kA k len z)
  replace K := K.fill _ _ (List.mem_cons_of_mem _ List.mem_cons_self) (row .u8 32 (kA k len z))
  replace K := K.settle [(R, 32)] P .u8 32 (kA k len z) (List.mem_cons_of_mem _ List.mem_cons_self) (fun p hp => by obtain rfl := List.mem_singleton.1 hp; exact List.mem_cons_self) (fun p hp => by obtain rfl := List.mem_singleton.1 hp; simp only; omega) HA
  clear HA
  generalize w3a.setCells P 0 (row .u8 32 (kA k len z)) = w3b at K ⊢
  refine storesL .u8 32 (kB k len z) R 25 _ _ rfl rfl rfl rfl (room_of (K.room _ List.mem_cons_self).1) (key_info' _) ?_
  simp only [Act.put]
  have HA := Has.all (K.room _ List.mem_cons_self).1 .u8 (kB k len z)
  replace K := K.fill _ _ List.mem_cons_self (row .u8 32 (kB k len z))
  replace K := K.settle [] R .u8 32 (kB k len z) List.mem_cons_self (fun _ h => by cases h) (fun _ h => by cases h) HA
  clear HA
  generalize w3b.setCells R 0 (row .u8 32 (kB k len z)) = w4 at K ⊢
  show Exit.then _ _ _ _ _
  go_upto_region 3 with fail
  refine wp_region_list ?_
  refine rowKL .u8 32 (k) (w.heap.size) 0 25 _ _ rfl rfl rfl Tryd.underlying25 rfl (key_info _) ((K.get _ _ _ _ (List.mem_cons_of_mem _ (List.mem_cons_of_mem _ List.mem_cons_self))).range) ?_
  simp only [Act.put, List.setIfInBounds_toArray, List.set_cons_zero, List.set_cons_succ]
  refine pureL (.slice sp len cap) rfl (fun _ => by kernel_rfl) ?_
  simp only [Act.put, List.setIfInBounds_toArray, List.set_cons_zero, List.set_cons_succ]
  refine callL rfl (fun _ => by kernel_rfl) (krefChain_any k hk sp len cap hlb hnb z hib _ (hsb.below K.below (Nat.le_refl _))) ?_
  rintro e w5 ⟨rfl, l⟩
  replace K := K.call l
  clear l
  refine ⟨_, rfl, ?_⟩
  simp only [Act.put, List.setIfInBounds_toArray, List.set_cons_zero, List.set_cons_succ]
  refine pureL (.tuple #[(.agg (row .u8 32 (kA k len z)).toArray), (.agg (row .u8 32 (kB k len z)).toArray)]) rfl (fun _ => by kernel_rfl) ?_
  simp only [Act.put, List.setIfInBounds_toArray, List.set_cons_zero, List.set_cons_succ]
  refine pureL (.agg (row .u8 32 (kA k len z)).toArray) rfl (fun _ => by kernel_rfl) ?_
  simp only [Act.put, List.setIfInBounds_toArray, List.set_cons_zero, List.set_cons_succ]
  refine pureL (.agg (row .u8 32 (kB k len z)).toArray) rfl (fun _ => by kernel_rfl) ?_
  simp only [Act.put, List.setIfInBounds_toArray, List.set_cons_zero, List.set_cons_succ]
  refine allocL #[.int .u8 0, .int .u8 0, .int .u8 0, .int .u8 0, .int .u8 0, .int .u8 0, .int .u8 0, .int .u8 0, .int .u8 0, .int .u8 0, .int .u8 0, .int .u8 0, .int .u8 0, .int .u8 0, .int .u8 0, .int .u8 0, .int .u8 0, .int .u8 0, .int .u8 0, .int .u8 0, .int .u8 0, .int .u8 0, .int .u8 0, .int .u8 0, .int .u8 0, .int .u8 0, .int .u8 0, .int .u8 0, .int .u8 0, .int .u8 0, .int .u8 0, .int .u8 0] 25 rfl (fun _ => by kernel_rfl) ?_
  simp only [Act.put, List.setIfInBounds_toArray, List.set_cons_zero, List.set_cons_succ]
  have zV := K.size
  replace K := K.make 32 #[.int .u8 0, .int .u8 0, .int .u8 0, .int .u8 0, .int .u8 0, .int .u8 0, .int .u8 0, .int .u8 0, .int .u8 0, .int .u8 0, .int .u8 0, .int .u8 0, .int .u8 0, .int .u8 0, .int .u8 0, .int .u8 0, .int .u8 0, .int .u8 0, .int .u8 0, .int .u8 0, .int .u8 0, .int .u8 0, .int .u8 0, .int .u8 0, .int .u8 0, .int .u8 0, .int .u8 0, .int .u8 0, .int .u8 0, .int .u8 0, .int .u8 0, .int .u8 0] 25 w5.heap.size rfl (key_zero _ _ _ rfl).there
  generalize w5.alloc (.cells #[.int .u8 0, .int .u8 0, .int .u8 0, .int .u8 0, .int .u8 0, .int .u8 0, .int .u8 0, .int .u8 0, .int .u8 0, .int .u8 0, .int .u8 0, .int .u8 0, .int .u8 0, .int .u8 0, .int .u8 0, .int .u8 0, .int .u8 0, .int .u8 0, .int .u8 0, .int .u8 0, .int .u8 0, .int .u8 0, .int .u8 0, .int .u8 0, .int .u8 0, .int .u8 0, .int .u8 0, .int .u8 0, .int .u8 0, .int .u8 0, .int .u8 0, .int .u8 0] 25) = w6 at K ⊢
  generalize w5.heap.size = V at *
  refine allocL #[.int .u8 0, .int .u8 0, .int .u8 0, .int .u8 0, .int .u8 0, .int .u8 0, .int .u8 0, .int .u8 0, .int .u8 0, .int .u8 0, .int .u8 0, .int .u8 0, .int .u8 0, .int .u8 0, .int .u8 0, .int .u8 0, .int .u8 0, .int .u8 0, .int .u8 0, .int .u8 0, .int .u8 0, .int .u8 0, .int .u8 0, .int .u8 0, .int .u8 0, .int .u8 0, .int .u8 0, .int .u8 0, .int .u8 0, .int .u8 0, .int .u8 0, .int .u8 0] 25 rfl (fun _ => by kernel_rfl) ?_
  simp only [Act.put, List.setIfInBounds_toArray, List.set_cons_zero, List.set_cons_succ]
  have zX := K.size
  replace K := K.make 32 #[.int .u8 0, .int .u8 0, .int .u8 0, .int .u8 0, .int .u8 0, .int .u8 0, .int .u8 0, .int .u8 0, .int .u8 0, .int .u8 0, .int .u8 0, .int .u8 0, .int .u8 0, .int .u8 0, .int .u8 0, .int .u8 0, .int .u8 0, .int .u8 0, .int .u8 0, .int .u8 0, .int .u8 0, .int .u8 0, .int .u8 0, .int .u8 0, .int .u8 0, .int .u8 0, .int .u8 0, .int .u8 0, .int .u8 0, .int .u8 0, .int .u8 0, .int .u8 0] 25 w6.heap.size rfl (key_zero _ _ _ rfl).there
  generalize w6.alloc (.cells #[.int .u8 0, .int .u8 0, .int .u8 0, .int .u8 0, .int .u8 0, .int .u8 0, .int .u8 0, .int .u8 0, .int .u8 0, .int .u8 0, .int .u8 0, .int .u8 0, .int .u8 0, .int .u8 0, .int .u8 0, .int .u8 0, .int .u8 0, .int .u8 0, .int .u8 0, .int .u8 0, .int .u8 0, .int .u8 0, .int .u8 0, .int .u8 0, .int .u8 0, .int .u8 0, .int .u8 0, .int .u8 0, .int .u8 0, .int .u8 0, .int .u8 0, .int .u8 0] 25) = w6a at K ⊢
  generalize w6.heap.size = X at *
  refine storesL .u8 32 (kA k len z) V 25 _ _ rfl rfl rfl rfl (room_of (K.room _ (List.mem_cons_of_mem _ List.mem_cons_self)).1) (key_info' _) ?_
  simp only [Act.put]
  have HA := Has.all (K.room _ (List.mem_cons_of_mem _ List.mem_cons_self)).1 .u8 (kA k len z)
  replace K := K.fill _ _ (List.mem_cons_of_mem _ List.mem_cons_self) (row .u8 32 (kA k len z))
  replace K := K.settle [(X, 32)] V .u8 32 (kA k len z) (List.mem_cons_of_mem _ List.mem_cons_self) (fun p hp => by obtain rfl := List.mem_singleton.1 hp; exact List.mem_cons_self) (fun p hp => by obtain rfl := List.mem_singleton.1 hp; simp only; omega) HA
  clear HA
  generalize w6a.setCells V 0 (row .u8 32 (kA k len z)) = w6b at K ⊢
  refine storesL .u8 32 (kB k len z) X 25 _ _ rfl rfl rfl rfl (room_of (K.room _ List.mem_cons_self).1) (key_info' _) ?_
  simp only [Act.put]
  have HA := Has.all (K.room _ List.mem_cons_self).1 .u8 (kB k len z)
  replace K := K.fill _ _ List.mem_cons_self (row .u8 32 (kB k len z))
  replace K := K.settle [] X .u8 32 (kB k len z) List.mem_cons_self (fun _ h => by cases h) (fun _ h => by cases h) HA
  clear HA
  generalize w6b.setCells X 0 (row .u8 32 (kB k len z)) = w7 at K ⊢
  show Exit.then _ _ _ _ _
  go_upto_region 4 with fail
  refine wp_region_list ?_
  refine pureL (.bool true) rfl (fun _ => by kernel_rfl) ?_
  simp only [Act.put, List.setIfInBounds_toArray, List.set_cons_zero, List.set_cons_succ]
  refine pureL (.bool true) rfl (fun _ => by kernel_rfl) ?_
  simp only [Act.put, List.setIfInBounds_toArray, List.set_cons_zero, List.set_cons_succ]
  refine rowKL .u8 32 (kA k len z) (P) 0 25 _ _ rfl rfl rfl Tryd.underlying25 rfl (key_info _) ((K.get _ _ _ _ (List.mem_cons_of_mem _ (List.mem_cons_of_mem _ (List.mem_cons_of_mem _ List.mem_cons_self)))).range) ?_
  simp only [Act.put, List.setIfInBounds_toArray, List.set_cons_zero, List.set_cons_succ]
  refine rowKL .u8 32 (kA k len z) (V) 0 25 _ _ rfl rfl rfl Tryd.underlying25 rfl (key_info _) ((K.get _ _ _ _ (List.mem_cons_of_mem _ List.mem_cons_self)).range) ?_
  simp only [Act.put, List.setIfInBounds_toArray, List.set_cons_zero, List.set_cons_succ]
  refine pureL (.bool true) rfl (fun w => eqlV 32 (kA k len z) (kA k len z) 25 5 _ _ _ rfl rfl rfl Tryd.underlying25 Tryd.underlying5 (fun _ => by kernel_rfl) (by kernel_rfl) (kT_in _ _ _ _ _) (kT_in _ _ _ _ _) true (decide_eq_true (rfl)) w) ?_
  simp only [Act.put, List.setIfInBounds_toArray, List.set_cons_zero, List.set_cons_succ]
  refine pureL (.bool true) rfl (fun _ => by kernel_rfl) ?_
  simp only [Act.put, List.setIfInBounds_toArray, List.set_cons_zero, List.set_cons_succ]
  refine pureL (.bool true) rfl (fun _ => by kernel_rfl) ?_
  simp only [Act.put, List.setIfInBounds_toArray, List.set_cons_zero, List.set_cons_succ]
  refine rowKL .u8 32 (kB k len z) (R) 0 25 _ _ rfl rfl rfl Tryd.underlying25 rfl (key_info _) ((K.get _ _ _ _ (List.mem_cons_of_mem _ (List.mem_cons_of_mem _ List.mem_cons_self))).range) ?_
  simp only [Act.put, List.setIfInBounds_toArray, List.set_cons_zero, List.set_cons_succ]
  refine rowKL .u8 32 (kB k len z) (X) 0 25 _ _ rfl rfl rfl Tryd.underlying25 rfl (key_info _) ((K.get _ _ _ _ List.mem_cons_self).range) ?_
  simp only [Act.put, List.setIfInBounds_toArray, List.set_cons_zero, List.set_cons_succ]
  refine pureL (.bool true) rfl (fun w => eqlV 32 (kB k len z) (kB k len z) 25 5 _ _ _ rfl rfl rfl Tryd.underlying25 Tryd.underlying5 (fun _ => by kernel_rfl) (by kernel_rfl) (kT_in _ _ _ _ _) (kT_in _ _ _ _ _) true (decide_eq_true (rfl)) w) ?_
  simp only [Act.put, List.setIfInBounds_toArray, List.set_cons_zero, List.set_cons_succ]
  refine pureL (.bool true) rfl (fun _ => by kernel_rfl) ?_
  simp only [Act.put, List.setIfInBounds_toArray, List.set_cons_zero, List.set_cons_succ]
  refine pureL (.bool true) rfl (fun _ => by kernel_rfl) ?_
  simp only [Act.put, List.setIfInBounds_toArray, List.set_cons_zero, List.set_cons_succ]
  show Exit.then _ _ _ _ _
  have hB := K.below
  clear K
  go_wp2
  go_ret
  exact ⟨rfl, hB⟩
end Go.Proofs.YtcdbkbcfjdpdoaaDoor
