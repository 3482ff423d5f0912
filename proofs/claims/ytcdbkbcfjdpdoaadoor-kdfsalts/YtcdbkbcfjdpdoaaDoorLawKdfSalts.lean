/- The walk of KdfSalts. -/
import Derived.Test.YtcdbkbcfjdpdoaaDoorG4
namespace Go.Proofs.YtcdbkbcfjdpdoaaDoor
open Go.RowKit

/-- Rows, and one slice that stands. -/
structure KZ (w : World) (m : Nat) (l : List (Nat × IntKind × Nat × (Nat → Int))) (s1 : Option Addr) (n : Nat) (x : Nat → Int) (w' : World) : Prop where
  kr : Kr w m l [] w'
  one : Src w' s1 n x
theorem KZ.call {w w' w'' : World} {m : Nat} {l : List (Nat × IntKind × Nat × (Nat → Int))} {s1 : Option Addr} {n : Nat} {x : Nat → Int} (h : KZ w m l s1 n x w') (b : Below w'.heap.size w' w'') : KZ w m l s1 n x w'' := ⟨h.kr.call b, h.one.below b (Nat.le_refl _)⟩
theorem KZ.drew {w w' : World} {m : Nat} {l : List (Nat × IntKind × Nat × (Nat → Int))} {s1 : Option Addr} {n : Nat} {x : Nat → Int} (h : KZ w m l s1 n x w') : KZ w m l s1 n x w'.drew := h.call (Below.refl _ _).drew
theorem salt_none (len : Nat) (z : Nat → Int) : bmac 0 z0 len z = bmac 32 z0 len z := (bmac_of 0 32 z0 z0 len z (by rw [bkk_z0 0 (by decide), bkk_z0 32 (by decide)]))
theorem both_txt (t : Nat → Int) : txt 32 (kT t 0 z0 1) ++ txt 32 (kT t 0 z0 2) = txt 64 (kex t 0 z0) := by
  rw [txt_congr (z := kT t 0 z0 1) (y := kex t 0 z0) (fun j hj => by rw [kex_part t 0 z0 0 j hj, Nat.mul_zero, Nat.zero_add]), txt_congr (z := kT t 0 z0 2) (y := fun j => kex t 0 z0 (32 + j)) (fun j hj => kex_part t 0 z0 1 j hj)]
  exact txt_add 32 32 (kex t 0 z0)
set_option maxRecDepth 10000 in
set_option maxHeartbeats 16000000 in
theorem law_KdfSalts (k : Nat → Int) (hk : In 256 32 k) (sp : Option Addr) (len cap : Nat) (hlb : len ≤ 140737488351232) (hcb : len ≤ cap) (hnb : sp = none → cap = 0) (z : Nat → Int) (hib : In 256 len z) (w : World) (hg : BGlob w) (hsb : Src w sp len z) :
    Calls Tryd.prog 8 #[(.agg (row .u8 32 (k)).toArray), .slice sp len cap] w fun e w' => e = .returned (.bool true) ∧ Below w.heap.size w w' := by
  have K := Kr.init w
  replace K := K.box .u8 32 k 25 (w.heap.size) rfl
  go_enter Tryd.func8, Tryd.ntmps8
  go_upto_region 1 with fail
  generalize (w.alloc (.cells (row .u8 32 k).toArray 25)) = w0 at K ⊢
  refine wp_region_list ?_
  refine callL rfl (fun _ => by kernel_rfl) (kshown_any _ (hg.below K.below hg.size)) ?_
  rintro e w1 ⟨rfl, l⟩
  replace K := K.call l
  clear l
  refine ⟨_, rfl, ?_⟩
  simp only [Act.put, List.setIfInBounds_toArray, List.set_cons_zero, List.set_cons_succ]
  refine pureL (.bool true) rfl (fun _ => by kernel_rfl) ?_
  simp only [Act.put, List.setIfInBounds_toArray, List.set_cons_zero, List.set_cons_succ]
  show Exit.then _ _ _ _ _
  go_upto_region 2 with fail
  refine wp_region_list ?_
  refine rowKL .u8 32 (k) (w.heap.size) 0 25 _ _ rfl rfl rfl Tryd.underlying25 rfl (key_info _) ((K.get _ _ _ _ List.mem_cons_self).range) ?_
  simp only [Act.put, List.setIfInBounds_toArray, List.set_cons_zero, List.set_cons_succ]
  refine pureL (.slice sp len cap) rfl (fun _ => by kernel_rfl) ?_
  simp only [Act.put, List.setIfInBounds_toArray, List.set_cons_zero, List.set_cons_succ]
  refine callL rfl (fun _ => by kernel_rfl) (kchain_any k hk sp len cap hlb hcb hnb z hib _ (hg.below K.below hg.size) (hsb.below K.below (Nat.le_refl _))) ?_
  rintro e w2 ⟨rfl, l⟩
  replace K := K.call l
  clear l
  refine ⟨_, rfl, ?_⟩
  simp only [Act.put, List.setIfInBounds_toArray, List.set_cons_zero, List.set_cons_succ]
  refine pureL (.tuple #[(.agg (row .u8 32 (kA k len z)).toArray), (.agg (row .u8 32 (kB k len z)).toArray)]) rfl (fun _ => by kernel_rfl) ?_
  simp only [Act.put, List.setIfInBounds_toArray, List.set_cons_zero, List.set_cons_succ]
  refine pureL (.agg (row .u8 32 (kA k len z)).toArray) rfl (fun _ => by kernel_rfl) ?_
  simp only [Act.put, List.setIfInBounds_toArray, List.set_cons_zero, List.set_cons_succ]
  refine pureL (.agg (row .u8 32 (kB k len z)).toArray) rfl (fun _ => by kernel_rfl) ?_
  simp only [Act.put, List.setIfInBounds_toArray, List.set_cons_zero, List.set_cons_succ]
  refine allocL #[.int .u8 0, .int .u8 0, .int .u8 0, .int .u8 0, .int .u8 0, .int .u8 0, .int .u8 0, .int .u8 0, .int .u8 0, .int .u8 0, .int .u8 0, .int .u8 0, .int .u8 0, .int .u8 0, .int .u8 0, .int .u8 0, .int .u8 0, .int .u8 0, .int .u8 0, .int .u8 0, .int .u8 0, .int .u8 0, .int .u8 0, .int .u8 0, .int .u8 0, .int .u8 0, .int .u8 0, .int .u8 0, .int .u8 0, .int .u8 0, .int .u8 0, .int .u8 0] 25 rfl (fun _ => by kernel_rfl) ?_
  simp only [Act.put, List.setIfInBounds_toArray, List.set_cons_zero, List.set_cons_succ]
  have zP := K.size
  replace K := K.make 32 #[.int .u8 0, .int .u8 0, .int .u8 0, .int .u8 0, .int .u8 0, .int .u8 0, .int .u8 0, .int .u8 0, .int .u8 0, .int .u8 0, .int .u8 0, .int .u8 0, .int .u8 0, .int .u8 0, .int .u8 0, .int .u8 0, .int .u8 0, .int .u8 0, .int .u8 0, .int .u8 0, .int .u8 0, .int .u8 0, .int .u8 0, .int .u8 0, .int .u8 0, .int .u8 0, .int .u8 0, .int .u8 0, .int .u8 0, .int .u8 0, .int .u8 0, .int .u8 0] 25 w2.heap.size rfl (key_zero _ _ _ rfl).there
  generalize w2.alloc (.cells #[.int .u8 0, .int .u8 0, .int .u8 0, .int .u8 0, .int .u8 0, .int .u8 0, .int .u8 0, .int .u8 0, .int .u8 0, .int .u8 0, .int .u8 0, .int .u8 0, .int .u8 0, .int .u8 0, .int .u8 0, .int .u8 0, .int .u8 0, .int .u8 0, .int .u8 0, .int .u8 0, .int .u8 0, .int .u8 0, .int .u8 0, .int .u8 0, .int .u8 0, .int .u8 0, .int .u8 0, .int .u8 0, .int .u8 0, .int .u8 0, .int .u8 0, .int .u8 0] 25) = w3 at K ⊢
  generalize w2.heap.size = P at *
  refine allocL #[.int .u8 0, .int .u8 0, .int .u8 0, .int .u8 0, .int .u8 0, .int .u8 0, .int .u8 0, .int .u8 0, .int .u8 0, .int .u8 0, .int .u8 0, .int .u8 0, .int .u8 0, .int .u8 0, .int .u8 0, .int .u8 0, .int .u8 0, .int .u8 0, .int .u8 0, .int .u8 0, .int .u8 0, .int .u8 0, .int .u8 0, .int .u8 0, .int .u8 0, .int .u8 0, .int .u8 0, .int .u8 0, .int .u8 0, .int .u8 0, .int .u8 0, .int .u8 0] 25 rfl (fun _ => by kernel_rfl) ?_
  simp only [Act.put, List.setIfInBounds_toArray, List.set_cons_zero, List.set_cons_succ]
  have zR := K.size
  replace K := K.make 32 #[.int .u8 0, .int .u8 0, .int .u8 0, .int .u8 0, .int .u8 0, .int .u8 0, .int .u8 0, .int .u8 0, .int .u8 0, .int .u8 0, .int .u8 0, .int .u8 0, .int .u8 0, .int .u8 0, .int .u8 0, .int .u8 0, .int .u8 0, .int .u8 0, .int .u8 0, .int .u8 0, .int .u8 0, .int .u8 0, .int .u8 0, .int .u8 0, .int .u8 0, .int .u8 0, .int .u8 0, .int .u8 0, .int .u8 0, .int .u8 0, .int .u8 0, .int .u8 0] 25 w3.heap.size rfl (key_zero _ _ _ rfl).there
  generalize w3.alloc (.cells #[.int .u8 0, .int .u8 0, .int .u8 0, .int .u8 0, .int .u8 0, .int .u8 0, .int .u8 0, .int .u8 0, .int .u8 0, .int .u8 0, .int .u8 0, .int .u8 0, .int .u8 0, .int .u8 0, .int .u8 0, .int .u8 0, .int .u8 0, .int .u8 0, .int .u8 0, .int .u8 0, .int .u8 0, .int .u8 0, .int .u8 0, .int .u8 0, .int .u8 0, .int .u8 0, .int .u8 0, .int .u8 0, .int .u8 0, .int .u8 0, .int .u8 0, .int .u8 0] 25) = w3a at K ⊢
  generalize w3.heap.size = R at *
  refine storesL .u8 32 (kA k len z) P 25 _ _ rfl rfl rfl rfl (room_of (K.room _ (List.mem_cons_of_mem _ List.mem_cons_self)).1) (key_info' _) ?_
  simp only [Act.put]
  have HA := Has.all (K.room _ (List.mem_cons_of_mem _ List.mem_cons_self)).1 .u8 (kA k len z)
  replace K := K.fill _ _ (List.mem_cons_of_mem _ List.mem_cons_self) (row .u8 32 (kA k len z))
  replace K := K.settle [(R, 32)] P .u8 32 (kA k len z) (List.mem_cons_of_mem _ List.mem_cons_self) (fun p hp => by obtain rfl := List.mem_singleton.1 hp; exact List.mem_cons_self) (fun p hp => by obtain rfl := List.mem_singleton.1 hp; simp only; omega) HA
  clear HA
  generalize w3a.setCells P 0 (row .u8 32 (kA k len z)) = w3b at K ⊢
  refine storesL .u8 32 (kB k len z) R 25 _ _ rfl rfl rfl rfl (room_of (K.room _ List.mem_cons_self).1) (key_info' _) ?_
  simp only [Act.put]
  have HA := Has.all (K.room _ List.mem_cons_self).1 .u8 (kB k len z)
  replace K := K.fill _ _ List.mem_cons_self (row .u8 32 (kB k len z))
  replace K := K.settle [] R .u8 32 (kB k len z) List.mem_cons_self (fun _ h => by cases h) (fun _ h => by cases h) HA
  clear HA
  generalize w3b.setCells R 0 (row .u8 32 (kB k len z)) = w4 at K ⊢
  show Exit.then _ _ _ _ _
  go_upto_region 3 with fail
  refine wp_region_list ?_
  refine pureL (.slice (some ⟨w.heap.size, 0, none⟩) 32 32) rfl (fun w' => cutAll _ _ _ _ rfl rfl (kcutAll w.heap.size w')) ?_
  simp only [Act.put, List.setIfInBounds_toArray, List.set_cons_zero, List.set_cons_succ]
  refine pureL (.slice sp len cap) rfl (fun _ => by kernel_rfl) ?_
  simp only [Act.put, List.setIfInBounds_toArray, List.set_cons_zero, List.set_cons_succ]
  refine callL rfl (fun _ => by kernel_rfl) (kextract_any (some ⟨w.heap.size, 0, none⟩) 32 32 (by decide) (by decide) (fun e => by cases e) k hk sp len cap (by omega) hcb hnb z hib _ (hg.below K.below hg.size) (K.get _ _ _ _ (List.mem_cons_of_mem _ (List.mem_cons_of_mem _ List.mem_cons_self))).src0 (hsb.below K.below (Nat.le_refl _))) ?_
  rintro e w5 ⟨rfl, l⟩
  replace K := K.call l
  clear l
  refine ⟨_, rfl, ?_⟩
  simp only [Act.put, List.setIfInBounds_toArray, List.set_cons_zero, List.set_cons_succ]
  refine callL rfl (fun _ => by kernel_rfl) (kexpand_any (bmac 32 k len z) (bmac_in _ _ _ _ _) none 0 0 (by decide) (fun _ => rfl) z0 (z0_in 0) 64 (by decide) _ (hg.below K.below hg.size) (fun j hj => absurd hj (Nat.not_lt_zero j))) ?_
  rintro e w6 ⟨s1, c1, rfl, ⟨_, h1⟩, l⟩
  replace K := K.call l
  clear l
  refine ⟨_, rfl, ?_⟩
  simp only [Act.put, List.setIfInBounds_toArray, List.set_cons_zero, List.set_cons_succ]
  refine pureL (.tuple #[.slice s1 64 c1, .int .i64 0]) rfl (fun _ => by kernel_rfl) ?_
  simp only [Act.put, List.setIfInBounds_toArray, List.set_cons_zero, List.set_cons_succ]
  refine pureL (.slice s1 64 c1) rfl (fun _ => by kernel_rfl) ?_
  simp only [Act.put, List.setIfInBounds_toArray, List.set_cons_zero, List.set_cons_succ]
  refine pureL (.int .i64 0) rfl (fun _ => by kernel_rfl) ?_
  simp only [Act.put, List.setIfInBounds_toArray, List.set_cons_zero, List.set_cons_succ]
  refine pureL (.slice s1 64 c1) rfl (fun _ => by kernel_rfl) ?_
  simp only [Act.put, List.setIfInBounds_toArray, List.set_cons_zero, List.set_cons_succ]
  refine pureL (.int .i64 0) rfl (fun _ => by kernel_rfl) ?_
  simp only [Act.put, List.setIfInBounds_toArray, List.set_cons_zero, List.set_cons_succ]
  show Exit.then _ _ _ _ _
  replace K : KZ w (R + 1) [(R, .u8, 32, kB k len z), (P, .u8, 32, kA k len z), (w.heap.size, .u8, 32, k)] s1 64 (kex (bmac 32 k len z) 0 z0) w6 := ⟨K, h1⟩
  clear h1
  go_upto_region 4 with fail
  refine wp_region_held_drew (S := fun w' => KZ w (R + 1) [(R, .u8, 32, kB k len z), (P, .u8, 32, kA k len z), (w.heap.size, .u8, 32, k)] s1 64 (kex (bmac 32 k len z) 0 z0) w') (by kernel_rfl) K.drew ?_
  clear K
  intro K
  generalize w6.drew = w7 at K ⊢
  refine pureH (i := 0) (some 24) rfl (.bool true) rfl rfl (fun _ => by kernel_rfl) (by kernel_rfl) (by kernel_rfl) (by kernel_rfl) (fun _ _ _ h => h) K ?_
  simp only [Act.put, List.setIfInBounds_toArray, List.set_cons_zero, List.set_cons_succ]
  refine pureH (i := 1) (some 25) rfl (.bool true) rfl rfl (fun _ => by kernel_rfl) (by kernel_rfl) (by kernel_rfl) (by kernel_rfl) (fun _ _ _ h => h) K ?_
  simp only [Act.put, List.setIfInBounds_toArray, List.set_cons_zero, List.set_cons_succ]
  refine pureH (i := 2) (some 26) rfl (.slice sp len cap) rfl rfl (fun _ => by kernel_rfl) (by kernel_rfl) (by kernel_rfl) (by kernel_rfl) (fun _ _ _ h => h) K ?_
  simp only [Act.put, List.setIfInBounds_toArray, List.set_cons_zero, List.set_cons_succ]
  refine pureH (i := 5) (some 29) rfl (.slice sp len cap) rfl rfl (fun _ => by kernel_rfl) (by kernel_rfl) (by kernel_rfl) (by kernel_rfl) (fun _ _ _ h => h) K ?_
  simp only [Act.put, List.setIfInBounds_toArray, List.set_cons_zero, List.set_cons_succ]
  refine twoH 3 4 (by kernel_rfl) ?_ ?_
  · refine callOpW (some 27) rfl rfl rfl (by kernel_rfl) (kextract_any none 0 0 (by decide) (by decide) (fun _ => rfl) z0 (z0_in 0) sp len cap (by omega) hcb hnb z hib _ (hg.below K.kr.below hg.size) (fun j hj => absurd hj (Nat.not_lt_zero j)) (hsb.below K.kr.below (Nat.le_refl _))) ?_
    rintro e w8 ⟨rfl, l⟩
    replace K := K.call l
    clear l
    refine ⟨_, rfl, K, ?_⟩
    simp only [Act.put, List.setIfInBounds_toArray, List.set_cons_zero, List.set_cons_succ]
    have HZ := Has.new w8 .u8 32 (fun _ => 0) 5 w8.heap.size rfl
    replace K := K.call ((Below.refl w8.heap.size w8).alloc (Nat.le_refl _) (.cells (row .u8 32 (fun _ => 0)).toArray 5))
    refine actH (i := 4) (w' := w8.alloc (.cells (row .u8 32 (fun _ => 0)).toArray 5)) (some 28) rfl (.slice (some ⟨w8.heap.size, 0, none⟩) 32 32) (by kernel_rfl) rfl rfl (makeOp 22 _ _ _ _ _ rfl rfl rfl (made8 32 (by decide) w8)) K ?_
    simp only [Act.put, List.setIfInBounds_toArray, List.set_cons_zero, List.set_cons_succ]
    generalize w8.alloc (.cells (row .u8 32 (fun _ => 0)).toArray 5) = wz at K HZ ⊢
    generalize w8.heap.size = Z at HZ ⊢
    refine callH (i := 6) (some 30) rfl (by kernel_rfl) rfl rfl (fun _ => by kernel_rfl) (kextract_any (some ⟨Z, 0, none⟩) 32 32 (by decide) (by decide) (fun e => by cases e) z0 (z0_in 32) sp len cap (by omega) hcb hnb z hib _ (hg.below K.kr.below hg.size) HZ.src0 (hsb.below K.kr.below (Nat.le_refl _))) ?_
    rintro e w9 ⟨rfl, l⟩
    replace K := K.call l
    clear l HZ
    refine ⟨_, rfl, K, ?_⟩
    simp only [Act.put, List.setIfInBounds_toArray, List.set_cons_zero, List.set_cons_succ]
    refine pureH (i := 7) (some 31) rfl (.bool true) rfl rfl (fun w => eqlV 32 (bmac 0 z0 len z) (bmac 32 z0 len z) 25 5 _ _ _ rfl rfl rfl Tryd.underlying25 Tryd.underlying5 (fun _ => by kernel_rfl) (by kernel_rfl) (bmac_in _ _ _ _ _) (bmac_in _ _ _ _ _) true (decide_eq_true (by rw [salt_none])) w) (by kernel_rfl) (by kernel_rfl) (by kernel_rfl) (fun _ _ _ h => h) K ?_
    simp only [Act.put, List.setIfInBounds_toArray, List.set_cons_zero, List.set_cons_succ]
    generalize (row .u8 32 (bmac 0 z0 len z)).toArray = r1
    generalize (row .u8 32 (bmac 32 z0 len z)).toArray = r2
    refine pureH (i := 8) (some 32) rfl (.bool true) rfl rfl (fun _ => by kernel_rfl) (by kernel_rfl) (by kernel_rfl) (by kernel_rfl) (fun _ _ _ h => h) K ?_
    simp only [Act.put, List.setIfInBounds_toArray, List.set_cons_zero, List.set_cons_succ]
    refine pureH (i := 9) (some 33) rfl (.bool true) rfl rfl (fun _ => by kernel_rfl) (by kernel_rfl) (by kernel_rfl) (by kernel_rfl) (fun _ _ _ h => h) K ?_
    simp only [Act.put, List.setIfInBounds_toArray, List.set_cons_zero, List.set_cons_succ]
    refine pureH (i := 10) (some 34) rfl (.int .i64 0) rfl rfl (fun _ => by kernel_rfl) (by kernel_rfl) (by kernel_rfl) (by kernel_rfl) (fun _ _ _ h => h) K ?_
    simp only [Act.put, List.setIfInBounds_toArray, List.set_cons_zero, List.set_cons_succ]
    refine pureH (i := 11) (some 35) rfl (.bool true) rfl rfl (fun w => eqlI .i64 0 0 _ _ _ _ rfl rfl rfl true (by decide) w) (by kernel_rfl) (by kernel_rfl) (by kernel_rfl) (fun _ _ _ h => h) K ?_
    simp only [Act.put, List.setIfInBounds_toArray, List.set_cons_zero, List.set_cons_succ]
    refine pureH (i := 12) (some 36) rfl (.bool true) rfl rfl (fun _ => by kernel_rfl) (by kernel_rfl) (by kernel_rfl) (by kernel_rfl) (fun _ _ _ h => h) K ?_
    simp only [Act.put, List.setIfInBounds_toArray, List.set_cons_zero, List.set_cons_succ]
    refine pureH (i := 13) (some 37) rfl (.bool true) rfl rfl (fun _ => by kernel_rfl) (by kernel_rfl) (by kernel_rfl) (by kernel_rfl) (fun _ _ _ h => h) K ?_
    simp only [Act.put, List.setIfInBounds_toArray, List.set_cons_zero, List.set_cons_succ]
    refine pureH (i := 14) (some 38) rfl (.slice s1 64 c1) rfl rfl (fun _ => by kernel_rfl) (by kernel_rfl) (by kernel_rfl) (by kernel_rfl) (fun _ _ _ h => h) K ?_
    simp only [Act.put, List.setIfInBounds_toArray, List.set_cons_zero, List.set_cons_succ]
    refine readH (i := 15) (some 39) rfl (.string (txt (64) (kex (bmac 32 k len z) 0 z0))) rfl rfl (fun w' h => conv_txt 22 5 9 _ rfl Tryd.underlying22 Tryd.underlying5 Tryd.underlying9 (s1) (64) (c1) (kex (bmac 32 k len z) 0 z0) rfl w' (h.one) (Src.none (h.one))) (by kernel_rfl) (by kernel_rfl) (by kernel_rfl) (fun _ _ _ h => h) K ?_
    simp only [Act.put, List.setIfInBounds_toArray, List.set_cons_zero, List.set_cons_succ]
    refine pureH (i := 16) (some 40) rfl (.slice (some ⟨P, 0, none⟩) 32 32) rfl rfl (fun w' => cutAll _ _ _ _ rfl rfl (kcutAll P w')) (by kernel_rfl) (by kernel_rfl) (by kernel_rfl) (fun _ _ _ h => h) K ?_
    simp only [Act.put, List.setIfInBounds_toArray, List.set_cons_zero, List.set_cons_succ]
    refine readH (i := 17) (some 41) rfl (.string (txt (32) (kA k len z))) rfl rfl (fun w' h => conv_txt 22 5 9 _ rfl Tryd.underlying22 Tryd.underlying5 Tryd.underlying9 (some ⟨P, 0, none⟩) (32) (32) (kA k len z) rfl w' ((h.kr.get _ _ _ _ (List.mem_cons_of_mem _ List.mem_cons_self)).src0) (Src.none ((h.kr.get _ _ _ _ (List.mem_cons_of_mem _ List.mem_cons_self)).src0))) (by kernel_rfl) (by kernel_rfl) (by kernel_rfl) (fun _ _ _ h => h) K ?_
    simp only [Act.put, List.setIfInBounds_toArray, List.set_cons_zero, List.set_cons_succ]
    refine pureH (i := 18) (some 42) rfl (.slice (some ⟨R, 0, none⟩) 32 32) rfl rfl (fun w' => cutAll _ _ _ _ rfl rfl (kcutAll R w')) (by kernel_rfl) (by kernel_rfl) (by kernel_rfl) (fun _ _ _ h => h) K ?_
    simp only [Act.put, List.setIfInBounds_toArray, List.set_cons_zero, List.set_cons_succ]
    refine readH (i := 19) (some 43) rfl (.string (txt (32) (kB k len z))) rfl rfl (fun w' h => conv_txt 22 5 9 _ rfl Tryd.underlying22 Tryd.underlying5 Tryd.underlying9 (some ⟨R, 0, none⟩) (32) (32) (kB k len z) rfl w' ((h.kr.get _ _ _ _ List.mem_cons_self).src0) (Src.none ((h.kr.get _ _ _ _ List.mem_cons_self).src0))) (by kernel_rfl) (by kernel_rfl) (by kernel_rfl) (fun _ _ _ h => h) K ?_
    simp only [Act.put, List.setIfInBounds_toArray, List.set_cons_zero, List.set_cons_succ]
    refine pureH (i := 20) (some 44) rfl (.string (txt 64 (kex (bmac 32 k len z) 0 z0))) rfl rfl (fun w => addS _ _ _ _ _ _ _ rfl rfl rfl (by rw [txt_size, txt_size]; decide) (both_txt (bmac 32 k len z)) w) (by kernel_rfl) (by kernel_rfl) (by kernel_rfl) (fun _ _ _ h => h) K ?_
    simp only [Act.put, List.setIfInBounds_toArray, List.set_cons_zero, List.set_cons_succ]
    refine pureH (i := 21) (some 45) rfl (.bool true) rfl rfl (fun w => eqlS _ _ _ _ _ _ rfl rfl rfl rfl w) (by kernel_rfl) (by kernel_rfl) (by kernel_rfl) (fun _ _ _ h => h) K ?_
    simp only [Act.put, List.setIfInBounds_toArray, List.set_cons_zero, List.set_cons_succ]
    refine pureH (i := 22) (some 46) rfl (.bool true) rfl rfl (fun _ => by kernel_rfl) (by kernel_rfl) (by kernel_rfl) (by kernel_rfl) (fun _ _ _ h => h) K ?_
    simp only [Act.put, List.setIfInBounds_toArray, List.set_cons_zero, List.set_cons_succ]
    refine pureH (i := 23) (some 4) rfl (.bool true) rfl rfl (fun _ => by kernel_rfl) (by kernel_rfl) (by kernel_rfl) (by kernel_rfl) (fun _ _ _ h => h) K ?_
    simp only [Act.put, List.setIfInBounds_toArray, List.set_cons_zero, List.set_cons_succ]
    refine wpAnyH_done (by kernel_rfl) ?_ _
    have hB := K.kr.below
    clear K
    go_wp2
    go_ret
    exact ⟨rfl, hB⟩
  · have HZ := Has.new w7 .u8 32 (fun _ => 0) 5 w7.heap.size rfl
    have hzl : w7.heap.size < (w7.alloc (.cells (row .u8 32 (fun _ => 0)).toArray 5)).heap.size := by simp
    replace K := K.call ((Below.refl w7.heap.size w7).alloc (Nat.le_refl _) (.cells (row .u8 32 (fun _ => 0)).toArray 5))
    refine valueOpW (some 28) rfl rfl rfl (makeOp 22 _ _ _ _ _ rfl rfl rfl (made8 32 (by decide) w7)) ⟨K, ?_⟩
    simp only [Act.put, List.setIfInBounds_toArray, List.set_cons_zero, List.set_cons_succ]
    generalize w7.alloc (.cells (row .u8 32 (fun _ => 0)).toArray 5) = w8 at K HZ hzl ⊢
    generalize w7.heap.size = Z at HZ hzl ⊢
    refine callH (i := 3) (some 27) rfl (by kernel_rfl) rfl rfl (fun _ => by kernel_rfl) (kextract_any none 0 0 (by decide) (by decide) (fun _ => rfl) z0 (z0_in 0) sp len cap (by omega) hcb hnb z hib _ (hg.below K.kr.below hg.size) (fun j hj => absurd hj (Nat.not_lt_zero j)) (hsb.below K.kr.below (Nat.le_refl _))) ?_
    rintro e wz ⟨rfl, l⟩
    replace K := K.call l
    replace HZ := HZ.below l hzl
    clear l hzl
    refine ⟨_, rfl, K, ?_⟩
    simp only [Act.put, List.setIfInBounds_toArray, List.set_cons_zero, List.set_cons_succ]
    refine callH (i := 6) (some 30) rfl (by kernel_rfl) rfl rfl (fun _ => by kernel_rfl) (kextract_any (some ⟨Z, 0, none⟩) 32 32 (by decide) (by decide) (fun e => by cases e) z0 (z0_in 32) sp len cap (by omega) hcb hnb z hib _ (hg.below K.kr.below hg.size) HZ.src0 (hsb.below K.kr.below (Nat.le_refl _))) ?_
    rintro e w9 ⟨rfl, l⟩
    replace K := K.call l
    clear l HZ
    refine ⟨_, rfl, K, ?_⟩
    simp only [Act.put, List.setIfInBounds_toArray, List.set_cons_zero, List.set_cons_succ]
    refine pureH (i := 7) (some 31) rfl (.bool true) rfl rfl (fun w => eqlV 32 (bmac 0 z0 len z) (bmac 32 z0 len z) 25 5 _ _ _ rfl rfl rfl Tryd.underlying25 Tryd.underlying5 (fun _ => by kernel_rfl) (by kernel_rfl) (bmac_in _ _ _ _ _) (bmac_in _ _ _ _ _) true (decide_eq_true (by rw [salt_none])) w) (by kernel_rfl) (by kernel_rfl) (by kernel_rfl) (fun _ _ _ h => h) K ?_
    simp only [Act.put, List.setIfInBounds_toArray, List.set_cons_zero, List.set_cons_succ]
    generalize (row .u8 32 (bmac 0 z0 len z)).toArray = r1
    generalize (row .u8 32 (bmac 32 z0 len z)).toArray = r2
    refine pureH (i := 8) (some 32) rfl (.bool true) rfl rfl (fun _ => by kernel_rfl) (by kernel_rfl) (by kernel_rfl) (by kernel_rfl) (fun _ _ _ h => h) K ?_
    simp only [Act.put, List.setIfInBounds_toArray, List.set_cons_zero, List.set_cons_succ]
    refine pureH (i := 9) (some 33) rfl (.bool true) rfl rfl (fun _ => by kernel_rfl) (by kernel_rfl) (by kernel_rfl) (by kernel_rfl) (fun _ _ _ h => h) K ?_
    simp only [Act.put, List.setIfInBounds_toArray, List.set_cons_zero, List.set_cons_succ]
    refine pureH (i := 10) (some 34) rfl (.int .i64 0) rfl rfl (fun _ => by kernel_rfl) (by kernel_rfl) (by kernel_rfl) (by kernel_rfl) (fun _ _ _ h => h) K ?_
    simp only [Act.put, List.setIfInBounds_toArray, List.set_cons_zero, List.set_cons_succ]
    refine pureH (i := 11) (some 35) rfl (.bool true) rfl rfl (fun w => eqlI .i64 0 0 _ _ _ _ rfl rfl rfl true (by decide) w) (by kernel_rfl) (by kernel_rfl) (by kernel_rfl) (fun _ _ _ h => h) K ?_
    simp only [Act.put, List.setIfInBounds_toArray, List.set_cons_zero, List.set_cons_succ]
    refine pureH (i := 12) (some 36) rfl (.bool true) rfl rfl (fun _ => by kernel_rfl) (by kernel_rfl) (by kernel_rfl) (by kernel_rfl) (fun _ _ _ h => h) K ?_
    simp only [Act.put, List.setIfInBounds_toArray, List.set_cons_zero, List.set_cons_succ]
    refine pureH (i := 13) (some 37) rfl (.bool true) rfl rfl (fun _ => by kernel_rfl) (by kernel_rfl) (by kernel_rfl) (by kernel_rfl) (fun _ _ _ h => h) K ?_
    simp only [Act.put, List.setIfInBounds_toArray, List.set_cons_zero, List.set_cons_succ]
    refine pureH (i := 14) (some 38) rfl (.slice s1 64 c1) rfl rfl (fun _ => by kernel_rfl) (by kernel_rfl) (by kernel_rfl) (by kernel_rfl) (fun _ _ _ h => h) K ?_
    simp only [Act.put, List.setIfInBounds_toArray, List.set_cons_zero, List.set_cons_succ]
    refine readH (i := 15) (some 39) rfl (.string (txt (64) (kex (bmac 32 k len z) 0 z0))) rfl rfl (fun w' h => conv_txt 22 5 9 _ rfl Tryd.underlying22 Tryd.underlying5 Tryd.underlying9 (s1) (64) (c1) (kex (bmac 32 k len z) 0 z0) rfl w' (h.one) (Src.none (h.one))) (by kernel_rfl) (by kernel_rfl) (by kernel_rfl) (fun _ _ _ h => h) K ?_
    simp only [Act.put, List.setIfInBounds_toArray, List.set_cons_zero, List.set_cons_succ]
    refine pureH (i := 16) (some 40) rfl (.slice (some ⟨P, 0, none⟩) 32 32) rfl rfl (fun w' => cutAll _ _ _ _ rfl rfl (kcutAll P w')) (by kernel_rfl) (by kernel_rfl) (by kernel_rfl) (fun _ _ _ h => h) K ?_
    simp only [Act.put, List.setIfInBounds_toArray, List.set_cons_zero, List.set_cons_succ]
    refine readH (i := 17) (some 41) rfl (.string (txt (32) (kA k len z))) rfl rfl (fun w' h => conv_txt 22 5 9 _ rfl Tryd.underlying22 Tryd.underlying5 Tryd.underlying9 (some ⟨P, 0, none⟩) (32) (32) (kA k len z) rfl w' ((h.kr.get _ _ _ _ (List.mem_cons_of_mem _ List.mem_cons_self)).src0) (Src.none ((h.kr.get _ _ _ _ (List.mem_cons_of_mem _ List.mem_cons_self)).src0))) (by kernel_rfl) (by kernel_rfl) (by kernel_rfl) (fun _ _ _ h => h) K ?_
    simp only [Act.put, List.setIfInBounds_toArray, List.set_cons_zero, List.set_cons_succ]
    refine pureH (i := 18) (some 42) rfl (.slice (some ⟨R, 0, none⟩) 32 32) rfl rfl (fun w' => cutAll _ _ _ _ rfl rfl (kcutAll R w')) (by kernel_rfl) (by kernel_rfl) (by kernel_rfl) (fun _ _ _ h => h) K ?_
    simp only [Act.put, List.setIfInBounds_toArray, List.set_cons_zero, List.set_cons_succ]
    refine readH (i := 19) (some 43) rfl (.string (txt (32) (kB k len z))) rfl rfl (fun w' h => conv_txt 22 5 9 _ rfl Tryd.underlying22 Tryd.underlying5 Tryd.underlying9 (some ⟨R, 0, none⟩) (32) (32) (kB k len z) rfl w' ((h.kr.get _ _ _ _ List.mem_cons_self).src0) (Src.none ((h.kr.get _ _ _ _ List.mem_cons_self).src0))) (by kernel_rfl) (by kernel_rfl) (by kernel_rfl) (fun _ _ _ h => h) K ?_
    simp only [Act.put, List.setIfInBounds_toArray, List.set_cons_zero, List.set_cons_succ]
    refine pureH (i := 20) (some 44) rfl (.string (txt 64 (kex (bmac 32 k len z) 0 z0))) rfl rfl (fun w => addS _ _ _ _ _ _ _ rfl rfl rfl (by rw [txt_size, txt_size]; decide) (both_txt (bmac 32 k len z)) w) (by kernel_rfl) (by kernel_rfl) (by kernel_rfl) (fun _ _ _ h => h) K ?_
    simp only [Act.put, List.setIfInBounds_toArray, List.set_cons_zero, List.set_cons_succ]
    refine pureH (i := 21) (some 45) rfl (.bool true) rfl rfl (fun w => eqlS _ _ _ _ _ _ rfl rfl rfl rfl w) (by kernel_rfl) (by kernel_rfl) (by kernel_rfl) (fun _ _ _ h => h) K ?_
    simp only [Act.put, List.setIfInBounds_toArray, List.set_cons_zero, List.set_cons_succ]
    refine pureH (i := 22) (some 46) rfl (.bool true) rfl rfl (fun _ => by kernel_rfl) (by kernel_rfl) (by kernel_rfl) (by kernel_rfl) (fun _ _ _ h => h) K ?_
    simp only [Act.put, List.setIfInBounds_toArray, List.set_cons_zero, List.set_cons_succ]
    refine pureH (i := 23) (some 4) rfl (.bool true) rfl rfl (fun _ => by kernel_rfl) (by kernel_rfl) (by kernel_rfl) (by kernel_rfl) (fun _ _ _ h => h) K ?_
    simp only [Act.put, List.setIfInBounds_toArray, List.set_cons_zero, List.set_cons_succ]
    refine wpAnyH_done (by kernel_rfl) ?_ _
    have hB := K.kr.below
    clear K
    go_wp2
    go_ret
    exact ⟨rfl, hB⟩
end Go.Proofs.YtcdbkbcfjdpdoaaDoor
