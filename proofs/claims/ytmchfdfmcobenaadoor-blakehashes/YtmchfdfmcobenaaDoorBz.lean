/- What the program's Sum, Hash and Mac answer. -/
import Derived.Test.YtmchfdfmcobenaaDoorBh
import Derived.Test.YtmchfdfmcobenaaDoorMk
namespace Go.Proofs.YtmchfdfmcobenaaDoor
open Go.RowKit

theorem bcutAll_key (b : Nat) (w : World) : (Instr.sliceAt 29 (.pointer (some ⟨b, 0, none⟩)) none none none).run Tryd.prog w = .ok (.slice (some ⟨b, 0, none⟩) 32 32) w := by kernel_rfl
theorem app_none (y z : Nat → Int) : app y 0 z = z := by
  funext j
  unfold app
  rw [if_neg (Nat.not_lt_zero j), Nat.sub_zero]

set_option maxRecDepth 10000 in
set_option maxHeartbeats 8000000 in
theorem bhash_any : BHashOK := by
  intro sp len cap hlen hcap _ z hz w hg hs
  have K := Kr.init w
  replace K := K.make 32 #[.int .u8 0, .int .u8 0, .int .u8 0, .int .u8 0, .int .u8 0, .int .u8 0, .int .u8 0, .int .u8 0, .int .u8 0, .int .u8 0, .int .u8 0, .int .u8 0, .int .u8 0, .int .u8 0, .int .u8 0, .int .u8 0, .int .u8 0, .int .u8 0, .int .u8 0, .int .u8 0, .int .u8 0, .int .u8 0, .int .u8 0, .int .u8 0, .int .u8 0, .int .u8 0, .int .u8 0, .int .u8 0, .int .u8 0, .int .u8 0, .int .u8 0, .int .u8 0] 29 (w.heap.size) rfl (key_zero _ _ _ rfl).there
  go_enter Tryd.func12, Tryd.ntmps12
  go_upto_region 1 with fail
  generalize (w.alloc (.cells #[.int .u8 0, .int .u8 0, .int .u8 0, .int .u8 0, .int .u8 0, .int .u8 0, .int .u8 0, .int .u8 0, .int .u8 0, .int .u8 0, .int .u8 0, .int .u8 0, .int .u8 0, .int .u8 0, .int .u8 0, .int .u8 0, .int .u8 0, .int .u8 0, .int .u8 0, .int .u8 0, .int .u8 0, .int .u8 0, .int .u8 0, .int .u8 0, .int .u8 0, .int .u8 0, .int .u8 0, .int .u8 0, .int .u8 0, .int .u8 0, .int .u8 0, .int .u8 0] 29)) = w0 at K ⊢
  refine wp_region_list ?_
  refine pureL (.slice sp len cap) rfl (fun _ => by kernel_rfl) ?_
  simp only [Act.put, List.setIfInBounds_toArray, List.set_cons_zero, List.set_cons_succ]
  refine callL rfl (fun _ => by kernel_rfl) (bbehind_any none 0 0 (.inl rfl) (Nat.le_refl _) (fun _ => 0) (fun j hj => absurd hj (Nat.not_lt_zero j)) sp len cap hlen hcap z hz _ (hg.below K.below hg.size) (fun j hj => absurd hj (Nat.not_lt_zero j)) (hs.below K.below (Nat.le_refl _))) ?_
  rintro e w1 ⟨rfl, l⟩
  replace K := K.call l
  clear l
  refine ⟨_, rfl, ?_⟩
  simp only [Act.put, List.setIfInBounds_toArray, List.set_cons_zero, List.set_cons_succ]
  rw [app_none, Nat.zero_add]
  have hz' := (K.room _ List.mem_cons_self).1
  refine storesL .u8 32 (bhash len z) (w.heap.size) 29 _ _ rfl rfl rfl rfl (room_of hz') (key_info' _) ?_
  simp only [Act.put]
  have hB := (K.fill _ _ List.mem_cons_self (row .u8 32 (bhash len z))).below
  clear K
  generalize hGe : bhash len z = G at *
  show Exit.then _ _ _ _ _
  go_wp2
  exact bodyPost_ret (v := (.agg (row .u8 32 (G)).toArray)) (results_row Tryd.results12 rfl (Has.all hz' .u8 G).range Tryd.underlying29 rfl (key_info G)) rfl ⟨by first | rfl | rw [hGe] | (rw [← hGe]; done), hB⟩

theorem bkk_short (kl : Nat) (key : Nat → Int) (h : kl ≤ 64) : bkk kl key = padz kl key := by
  funext j
  unfold bkk padz
  rw [if_pos h]
theorem bkk_long (kl : Nat) (key : Nat → Int) (h : ¬ kl ≤ 64) : bkk kl key = padz 32 (bhash kl key) := by
  funext j
  unfold bkk padz
  rw [if_neg h]
set_option maxRecDepth 10000 in
set_option maxHeartbeats 8000000 in
theorem bmac_any : BMacOK := by
  intro kp kl kc hkl hkc _ key hkk sp len cap hlen hcap _ z hz w hg hk hs
  have K := Kr.init w
  replace K := K.make 32 #[.int .u8 0, .int .u8 0, .int .u8 0, .int .u8 0, .int .u8 0, .int .u8 0, .int .u8 0, .int .u8 0, .int .u8 0, .int .u8 0, .int .u8 0, .int .u8 0, .int .u8 0, .int .u8 0, .int .u8 0, .int .u8 0, .int .u8 0, .int .u8 0, .int .u8 0, .int .u8 0, .int .u8 0, .int .u8 0, .int .u8 0, .int .u8 0, .int .u8 0, .int .u8 0, .int .u8 0, .int .u8 0, .int .u8 0, .int .u8 0, .int .u8 0, .int .u8 0] 29 (w.heap.size) rfl (key_zero _ _ _ rfl).there
  go_enter Tryd.func14, Tryd.ntmps14
  go_upto_region 1 with fail
  generalize (w.alloc (.cells #[.int .u8 0, .int .u8 0, .int .u8 0, .int .u8 0, .int .u8 0, .int .u8 0, .int .u8 0, .int .u8 0, .int .u8 0, .int .u8 0, .int .u8 0, .int .u8 0, .int .u8 0, .int .u8 0, .int .u8 0, .int .u8 0, .int .u8 0, .int .u8 0, .int .u8 0, .int .u8 0, .int .u8 0, .int .u8 0, .int .u8 0, .int .u8 0, .int .u8 0, .int .u8 0, .int .u8 0, .int .u8 0, .int .u8 0, .int .u8 0, .int .u8 0, .int .u8 0] 29)) = w0 at K ⊢
  by_cases hl : kl ≤ 64
  · have g1 : (kl : Int) ≤ 64 := by omega
    have HE := show Hid _ from (show (bhash (64 + 32) (app (bxx 92 (padz (kl) key)) 64 (bhash (64 + len) (app (bxx 54 (padz (kl) key)) 64 z)))) = bmac kl key len z from by unfold bmac; rw [bkk_short kl key hl])
    have hp54 := bxx_in 54 (by decide) (padz (kl) key) 64 (padz_in (kl) key hkk 64)
    have hp92 := bxx_in 92 (by decide) (padz (kl) key) 64 (padz_in (kl) key hkk 64)
    go_upto_region 4 with fail
    refine wp_region_list ?_
    refine pureL (.slice kp kl kc) rfl (fun _ => by kernel_rfl) ?_
    simp only [Act.put, List.setIfInBounds_toArray, List.set_cons_zero, List.set_cons_succ]
    refine callL rfl (fun _ => by kernel_rfl) (bpad_any kp (kl) kc hl key 54 _ (hk.below K.below (Nat.le_refl _))) ?_
    rintro e wa ⟨g, rfl, hG, ⟨_, hgl⟩, l⟩
    replace K := K.call l
    clear l
    refine ⟨_, rfl, ?_⟩
    simp only [Act.put, List.setIfInBounds_toArray, List.set_cons_zero, List.set_cons_succ]
    refine pureL (.slice sp len cap) rfl (fun _ => by kernel_rfl) ?_
    simp only [Act.put, List.setIfInBounds_toArray, List.set_cons_zero, List.set_cons_succ]
    refine callL rfl (fun _ => by kernel_rfl) (bbehind_any (some ⟨g, 0, none⟩) 64 64 (.inr rfl) (Nat.le_refl _) (bxx 54 (padz (kl) key)) hp54 sp len cap (by omega) hcap z hz _ (hg.below K.below hg.size) hG.src0 (hs.below K.below (Nat.le_refl _))) ?_
    rintro e wb ⟨rfl, l⟩
    replace K := K.call l
    clear l
    refine ⟨_, rfl, ?_⟩
    simp only [Act.put, List.setIfInBounds_toArray, List.set_cons_zero, List.set_cons_succ]
    clear hG hgl
    refine allocL #[.int .u8 0, .int .u8 0, .int .u8 0, .int .u8 0, .int .u8 0, .int .u8 0, .int .u8 0, .int .u8 0, .int .u8 0, .int .u8 0, .int .u8 0, .int .u8 0, .int .u8 0, .int .u8 0, .int .u8 0, .int .u8 0, .int .u8 0, .int .u8 0, .int .u8 0, .int .u8 0, .int .u8 0, .int .u8 0, .int .u8 0, .int .u8 0, .int .u8 0, .int .u8 0, .int .u8 0, .int .u8 0, .int .u8 0, .int .u8 0, .int .u8 0, .int .u8 0] 29 rfl (fun _ => by kernel_rfl) ?_
    simp only [Act.put, List.setIfInBounds_toArray, List.set_cons_zero, List.set_cons_succ]
    refine storesL .u8 32 ((bhash (64 + len) (app (bxx 54 (padz (kl) key)) 64 z))) wb.heap.size 29 _ _ rfl rfl rfl rfl (room_of (key_zero _ _ _ rfl).there) (key_info' _) ?_
    simp only [Act.put]
    have zJ := K.size
    replace K := K.fresh .u8 32 ((bhash (64 + len) (app (bxx 54 (padz (kl) key)) 64 z))) #[.int .u8 0, .int .u8 0, .int .u8 0, .int .u8 0, .int .u8 0, .int .u8 0, .int .u8 0, .int .u8 0, .int .u8 0, .int .u8 0, .int .u8 0, .int .u8 0, .int .u8 0, .int .u8 0, .int .u8 0, .int .u8 0, .int .u8 0, .int .u8 0, .int .u8 0, .int .u8 0, .int .u8 0, .int .u8 0, .int .u8 0, .int .u8 0, .int .u8 0, .int .u8 0, .int .u8 0, .int .u8 0, .int .u8 0, .int .u8 0, .int .u8 0, .int .u8 0] 29 (key_zero _ _ _ rfl).there
    generalize ((wb.alloc (.cells #[.int .u8 0, .int .u8 0, .int .u8 0, .int .u8 0, .int .u8 0, .int .u8 0, .int .u8 0, .int .u8 0, .int .u8 0, .int .u8 0, .int .u8 0, .int .u8 0, .int .u8 0, .int .u8 0, .int .u8 0, .int .u8 0, .int .u8 0, .int .u8 0, .int .u8 0, .int .u8 0, .int .u8 0, .int .u8 0, .int .u8 0, .int .u8 0, .int .u8 0, .int .u8 0, .int .u8 0, .int .u8 0, .int .u8 0, .int .u8 0, .int .u8 0, .int .u8 0] 29)).setCells wb.heap.size 0 (row .u8 32 ((bhash (64 + len) (app (bxx 54 (padz (kl) key)) 64 z))))) = wc at K ⊢
    generalize wb.heap.size = J at *
    show Exit.then _ _ _ _ _
    go_upto_region 5 with fail
    refine wp_region_C (S := fun w' => Kr w (J + 1) [(J, .u8, 32, (bhash (64 + len) (app (bxx 54 (padz (kl) key)) 64 z)))] [(w.heap.size, 32)] w') 4 (by kernel_rfl) K.drew ?_
    clear K
    intro K
    refine pureC (i := 0) (some 17) rfl (.slice kp kl kc) rfl (by decide) rfl (fun _ => by kernel_rfl) (by kernel_rfl) (by kernel_rfl) (by kernel_rfl) (fun _ _ _ h => h) K ?_
    simp only [Act.put, List.setIfInBounds_toArray, List.set_cons_zero, List.set_cons_succ]
    refine pureC (i := 2) (some 19) rfl (.slice (some ⟨J, 0, none⟩) 32 32) rfl (by decide) rfl (fun w' => cutAll _ _ _ _ rfl rfl (bcutAll_key J w')) (by kernel_rfl) (by kernel_rfl) (by kernel_rfl) (fun _ _ _ h => h) K ?_
    simp only [Act.put, List.setIfInBounds_toArray, List.set_cons_zero, List.set_cons_succ]
    refine callMC (i := 1) (some 18) rfl (by kernel_rfl) rfl rfl (fun _ => by kernel_rfl) (bpad_any kp (kl) kc hl key 92 _ (hk.below K.below (Nat.le_refl _))) ?_
    rintro e wd ⟨g2, rfl, hG, ⟨_, hgl⟩, l⟩
    replace K := K.call l
    clear l
    refine ⟨_, rfl, K, ?_⟩
    simp only [Act.put, List.setIfInBounds_toArray, List.set_cons_zero, List.set_cons_succ]
    refine callMC (i := 3) (some 20) rfl (by kernel_rfl) rfl rfl (fun _ => by kernel_rfl) (bbehind_any (some ⟨g2, 0, none⟩) 64 64 (.inr rfl) (Nat.le_refl _) (bxx 92 (padz (kl) key)) hp92 (some ⟨J, 0, none⟩) 32 32 (by decide) (Nat.le_refl _) (bhash (64 + len) (app (bxx 54 (padz (kl) key)) 64 z)) (bhash_in _ _ 32) _ (hg.below K.below hg.size) hG.src0 (K.get _ _ _ _ List.mem_cons_self).src0) ?_
    rintro e we ⟨rfl, l⟩
    replace K := K.call l
    clear l
    refine ⟨_, rfl, K, ?_⟩
    simp only [Act.put, List.setIfInBounds_toArray, List.set_cons_zero, List.set_cons_succ]
    rw [HE.out]
    have hz' := (K.room _ List.mem_cons_self).1
    refine storesC (S2 := fun _ => True) none rfl .u8 32 (bmac kl key len z) (w.heap.size) 29 _ _ (by kernel_rfl) rfl rfl rfl rfl rfl (room_of hz') (key_info' _) (by kernel_rfl) ?_
    simp only [Act.put]
    refine wpAnyH_done (by kernel_rfl) ?_ _
    have hB := (K.fill _ _ List.mem_cons_self (row .u8 32 (bmac kl key len z))).below
    clear K HE hG hgl
    generalize hGe : bmac kl key len z = G at *
    go_wp2
    exact bodyPost_ret (v := (.agg (row .u8 32 (G)).toArray)) (results_row Tryd.results14 rfl (Has.all hz' .u8 G).range Tryd.underlying29 rfl (key_info G)) rfl ⟨by first | rfl | rw [hGe] | (rw [← hGe]; done), hB⟩
  · have g1 : (64 : Int) < (kl : Int) := by omega
    go_upto_region 2 with fail
    refine wp_region_list ?_
    refine pureL (.slice kp kl kc) rfl (fun _ => by kernel_rfl) ?_
    simp only [Act.put, List.setIfInBounds_toArray, List.set_cons_zero, List.set_cons_succ]
    refine callL rfl (fun _ => by kernel_rfl) (bhash_any kp kl kc hkl hkc (fun e => by have h0 := hk.none e; omega) key hkk _ (hg.below K.below hg.size) (hk.below K.below (Nat.le_refl _))) ?_
    rintro e w1 ⟨rfl, l⟩
    replace K := K.call l
    clear l
    refine ⟨_, rfl, ?_⟩
    simp only [Act.put, List.setIfInBounds_toArray, List.set_cons_zero, List.set_cons_succ]
    refine allocL #[.int .u8 0, .int .u8 0, .int .u8 0, .int .u8 0, .int .u8 0, .int .u8 0, .int .u8 0, .int .u8 0, .int .u8 0, .int .u8 0, .int .u8 0, .int .u8 0, .int .u8 0, .int .u8 0, .int .u8 0, .int .u8 0, .int .u8 0, .int .u8 0, .int .u8 0, .int .u8 0, .int .u8 0, .int .u8 0, .int .u8 0, .int .u8 0, .int .u8 0, .int .u8 0, .int .u8 0, .int .u8 0, .int .u8 0, .int .u8 0, .int .u8 0, .int .u8 0] 29 rfl (fun _ => by kernel_rfl) ?_
    simp only [Act.put, List.setIfInBounds_toArray, List.set_cons_zero, List.set_cons_succ]
    refine storesL .u8 32 (bhash kl key) w1.heap.size 29 _ _ rfl rfl rfl rfl (room_of (key_zero _ _ _ rfl).there) (key_info' _) ?_
    simp only [Act.put]
    have zX := K.size
    replace K := K.fresh .u8 32 (bhash kl key) #[.int .u8 0, .int .u8 0, .int .u8 0, .int .u8 0, .int .u8 0, .int .u8 0, .int .u8 0, .int .u8 0, .int .u8 0, .int .u8 0, .int .u8 0, .int .u8 0, .int .u8 0, .int .u8 0, .int .u8 0, .int .u8 0, .int .u8 0, .int .u8 0, .int .u8 0, .int .u8 0, .int .u8 0, .int .u8 0, .int .u8 0, .int .u8 0, .int .u8 0, .int .u8 0, .int .u8 0, .int .u8 0, .int .u8 0, .int .u8 0, .int .u8 0, .int .u8 0] 29 (key_zero _ _ _ rfl).there
    generalize ((w1.alloc (.cells #[.int .u8 0, .int .u8 0, .int .u8 0, .int .u8 0, .int .u8 0, .int .u8 0, .int .u8 0, .int .u8 0, .int .u8 0, .int .u8 0, .int .u8 0, .int .u8 0, .int .u8 0, .int .u8 0, .int .u8 0, .int .u8 0, .int .u8 0, .int .u8 0, .int .u8 0, .int .u8 0, .int .u8 0, .int .u8 0, .int .u8 0, .int .u8 0, .int .u8 0, .int .u8 0, .int .u8 0, .int .u8 0, .int .u8 0, .int .u8 0, .int .u8 0, .int .u8 0] 29)).setCells w1.heap.size 0 (row .u8 32 (bhash kl key))) = w2 at K ⊢
    generalize w1.heap.size = X at *
    show Exit.then _ _ _ _ _
    go_upto_region 3 with fail
    refine wp_region_list ?_
    refine pureL (.slice (some ⟨X, 0, none⟩) 32 32) rfl (fun w' => cutAll _ _ _ _ rfl rfl (bcutAll_key X w')) ?_
    simp only [Act.put, List.setIfInBounds_toArray, List.set_cons_zero, List.set_cons_succ]
    refine pureL (.slice (some ⟨X, 0, none⟩) 32 32) rfl (fun _ => by kernel_rfl) ?_
    simp only [Act.put, List.setIfInBounds_toArray, List.set_cons_zero]
    show Exit.then _ _ _ _ _
    have HE := show Hid _ from (show (bhash (64 + 32) (app (bxx 92 (padz (32) (bhash kl key))) 64 (bhash (64 + len) (app (bxx 54 (padz (32) (bhash kl key))) 64 z)))) = bmac kl key len z from by unfold bmac; rw [bkk_long kl key hl])
    have hp54 := bxx_in 54 (by decide) (padz (32) (bhash kl key)) 64 (padz_in (32) (bhash kl key) (bhash_in kl key 32) 64)
    have hp92 := bxx_in 92 (by decide) (padz (32) (bhash kl key)) 64 (padz_in (32) (bhash kl key) (bhash_in kl key 32) 64)
    go_upto_region 4 with fail
    refine wp_region_list ?_
    refine pureL (.slice (some ⟨X, 0, none⟩) 32 32) rfl (fun _ => by kernel_rfl) ?_
    simp only [Act.put, List.setIfInBounds_toArray, List.set_cons_zero, List.set_cons_succ]
    refine callL rfl (fun _ => by kernel_rfl) (bpad_any (some ⟨X, 0, none⟩) (32) 32 (by decide) (bhash kl key) 54 _ (K.get _ _ _ _ List.mem_cons_self).src0) ?_
    rintro e wa ⟨g, rfl, hG, ⟨_, hgl⟩, l⟩
    replace K := K.call l
    clear l
    refine ⟨_, rfl, ?_⟩
    simp only [Act.put, List.setIfInBounds_toArray, List.set_cons_zero, List.set_cons_succ]
    refine pureL (.slice sp len cap) rfl (fun _ => by kernel_rfl) ?_
    simp only [Act.put, List.setIfInBounds_toArray, List.set_cons_zero, List.set_cons_succ]
    refine callL rfl (fun _ => by kernel_rfl) (bbehind_any (some ⟨g, 0, none⟩) 64 64 (.inr rfl) (Nat.le_refl _) (bxx 54 (padz (32) (bhash kl key))) hp54 sp len cap (by omega) hcap z hz _ (hg.below K.below hg.size) hG.src0 (hs.below K.below (Nat.le_refl _))) ?_
    rintro e wb ⟨rfl, l⟩
    replace K := K.call l
    clear l
    refine ⟨_, rfl, ?_⟩
    simp only [Act.put, List.setIfInBounds_toArray, List.set_cons_zero, List.set_cons_succ]
    clear hG hgl
    refine allocL #[.int .u8 0, .int .u8 0, .int .u8 0, .int .u8 0, .int .u8 0, .int .u8 0, .int .u8 0, .int .u8 0, .int .u8 0, .int .u8 0, .int .u8 0, .int .u8 0, .int .u8 0, .int .u8 0, .int .u8 0, .int .u8 0, .int .u8 0, .int .u8 0, .int .u8 0, .int .u8 0, .int .u8 0, .int .u8 0, .int .u8 0, .int .u8 0, .int .u8 0, .int .u8 0, .int .u8 0, .int .u8 0, .int .u8 0, .int .u8 0, .int .u8 0, .int .u8 0] 29 rfl (fun _ => by kernel_rfl) ?_
    simp only [Act.put, List.setIfInBounds_toArray, List.set_cons_zero, List.set_cons_succ]
    refine storesL .u8 32 ((bhash (64 + len) (app (bxx 54 (padz (32) (bhash kl key))) 64 z))) wb.heap.size 29 _ _ rfl rfl rfl rfl (room_of (key_zero _ _ _ rfl).there) (key_info' _) ?_
    simp only [Act.put]
    have zJ := K.size
    replace K := K.fresh .u8 32 ((bhash (64 + len) (app (bxx 54 (padz (32) (bhash kl key))) 64 z))) #[.int .u8 0, .int .u8 0, .int .u8 0, .int .u8 0, .int .u8 0, .int .u8 0, .int .u8 0, .int .u8 0, .int .u8 0, .int .u8 0, .int .u8 0, .int .u8 0, .int .u8 0, .int .u8 0, .int .u8 0, .int .u8 0, .int .u8 0, .int .u8 0, .int .u8 0, .int .u8 0, .int .u8 0, .int .u8 0, .int .u8 0, .int .u8 0, .int .u8 0, .int .u8 0, .int .u8 0, .int .u8 0, .int .u8 0, .int .u8 0, .int .u8 0, .int .u8 0] 29 (key_zero _ _ _ rfl).there
    generalize ((wb.alloc (.cells #[.int .u8 0, .int .u8 0, .int .u8 0, .int .u8 0, .int .u8 0, .int .u8 0, .int .u8 0, .int .u8 0, .int .u8 0, .int .u8 0, .int .u8 0, .int .u8 0, .int .u8 0, .int .u8 0, .int .u8 0, .int .u8 0, .int .u8 0, .int .u8 0, .int .u8 0, .int .u8 0, .int .u8 0, .int .u8 0, .int .u8 0, .int .u8 0, .int .u8 0, .int .u8 0, .int .u8 0, .int .u8 0, .int .u8 0, .int .u8 0, .int .u8 0, .int .u8 0] 29)).setCells wb.heap.size 0 (row .u8 32 ((bhash (64 + len) (app (bxx 54 (padz (32) (bhash kl key))) 64 z))))) = wc at K ⊢
    generalize wb.heap.size = J at *
    show Exit.then _ _ _ _ _
    go_upto_region 5 with fail
    refine wp_region_C (S := fun w' => Kr w (J + 1) [(J, .u8, 32, (bhash (64 + len) (app (bxx 54 (padz (32) (bhash kl key))) 64 z))), (X, .u8, 32, bhash kl key)] [(w.heap.size, 32)] w') 4 (by kernel_rfl) K.drew ?_
    clear K
    intro K
    refine pureC (i := 0) (some 17) rfl (.slice (some ⟨X, 0, none⟩) 32 32) rfl (by decide) rfl (fun _ => by kernel_rfl) (by kernel_rfl) (by kernel_rfl) (by kernel_rfl) (fun _ _ _ h => h) K ?_
    simp only [Act.put, List.setIfInBounds_toArray, List.set_cons_zero, List.set_cons_succ]
    refine pureC (i := 2) (some 19) rfl (.slice (some ⟨J, 0, none⟩) 32 32) rfl (by decide) rfl (fun w' => cutAll _ _ _ _ rfl rfl (bcutAll_key J w')) (by kernel_rfl) (by kernel_rfl) (by kernel_rfl) (fun _ _ _ h => h) K ?_
    simp only [Act.put, List.setIfInBounds_toArray, List.set_cons_zero, List.set_cons_succ]
    refine callMC (i := 1) (some 18) rfl (by kernel_rfl) rfl rfl (fun _ => by kernel_rfl) (bpad_any (some ⟨X, 0, none⟩) (32) 32 (by decide) (bhash kl key) 92 _ (K.get _ _ _ _ (List.mem_cons_of_mem _ List.mem_cons_self)).src0) ?_
    rintro e wd ⟨g2, rfl, hG, ⟨_, hgl⟩, l⟩
    replace K := K.call l
    clear l
    refine ⟨_, rfl, K, ?_⟩
    simp only [Act.put, List.setIfInBounds_toArray, List.set_cons_zero, List.set_cons_succ]
    refine callMC (i := 3) (some 20) rfl (by kernel_rfl) rfl rfl (fun _ => by kernel_rfl) (bbehind_any (some ⟨g2, 0, none⟩) 64 64 (.inr rfl) (Nat.le_refl _) (bxx 92 (padz (32) (bhash kl key))) hp92 (some ⟨J, 0, none⟩) 32 32 (by decide) (Nat.le_refl _) (bhash (64 + len) (app (bxx 54 (padz (32) (bhash kl key))) 64 z)) (bhash_in _ _ 32) _ (hg.below K.below hg.size) hG.src0 (K.get _ _ _ _ List.mem_cons_self).src0) ?_
    rintro e we ⟨rfl, l⟩
    replace K := K.call l
    clear l
    refine ⟨_, rfl, K, ?_⟩
    simp only [Act.put, List.setIfInBounds_toArray, List.set_cons_zero, List.set_cons_succ]
    rw [HE.out]
    have hz' := (K.room _ List.mem_cons_self).1
    refine storesC (S2 := fun _ => True) none rfl .u8 32 (bmac kl key len z) (w.heap.size) 29 _ _ (by kernel_rfl) rfl rfl rfl rfl rfl (room_of hz') (key_info' _) (by kernel_rfl) ?_
    simp only [Act.put]
    refine wpAnyH_done (by kernel_rfl) ?_ _
    have hB := (K.fill _ _ List.mem_cons_self (row .u8 32 (bmac kl key len z))).below
    clear K HE hG hgl
    generalize hGe : bmac kl key len z = G at *
    go_wp2
    exact bodyPost_ret (v := (.agg (row .u8 32 (G)).toArray)) (results_row Tryd.results14 rfl (Has.all hz' .u8 G).range Tryd.underlying29 rfl (key_info G)) rfl ⟨by first | rfl | rw [hGe] | (rw [← hGe]; done), hB⟩

set_option maxRecDepth 10000 in
set_option maxHeartbeats 4000000 in
theorem bsum_bad (kp : Option Addr) (kl kc : Nat) (size : Int) (sp : Option Addr) (len cap : Nat) (hbad : size < 1 ∨ 32 < size ∨ 32 < kl) (w : World) :
    Calls Tryd.prog 10 #[.slice kp kl kc, .int .i64 size, .slice sp len cap] w fun e w' => e = .returned (.tuple #[.slice none 0 0, .int .i64 1]) ∧ Below w.heap.size w w' := by
  have hB := Below.refl w.heap.size w
  by_cases h1 : size < 1
  · go_enter Tryd.func10, Tryd.ntmps10
    go_wp2
    go_ret2
    exact ⟨rfl, hB⟩
  · have h1' : ¬ size ≤ 0 := by omega
    by_cases h2 : 32 < size
    · have h2' : 33 ≤ size := by omega
      go_enter Tryd.func10, Tryd.ntmps10
      go_wp2
      go_ret2
      exact ⟨rfl, hB⟩
    · have h3 : (32 : Int) < (kl : Int) := by omega
      have h2' : ¬ 33 ≤ size := by omega
      have h3' : (33 : Int) ≤ (kl : Int) := by omega
      go_enter Tryd.func10, Tryd.ntmps10
      go_wp2
      go_ret2
      exact ⟨rfl, hB⟩
set_option maxRecDepth 10000 in
set_option maxHeartbeats 16000000 in
theorem bsum_good (kp : Option Addr) (kl kc : Nat) (key : Nat → Int) (hkl : kl ≤ 32) (hkk : In 256 kl key) (size : Nat) (hs1 : 1 ≤ size) (hs2 : size ≤ 32) (sp : Option Addr) (len cap : Nat) (hlen : len ≤ 140737488355072) (hcap : len ≤ cap) (z : Nat → Int) (hz : In 256 len z) (w : World) (hg : BGlob w) (hk : Src w kp kl key) (hs : Src w sp len z) :
    Calls Tryd.prog 10 #[.slice kp kl kc, .int .i64 (size : Int), .slice sp len cap] w fun e w' => ∃ sp' cap', e = .returned (.tuple #[.slice sp' size cap', .int .i64 0]) ∧ Src w' sp' size (bsum kl key size len z) ∧ Below w.heap.size w w' := by
  have h1 : ¬ (size : Int) < 1 := by omega
  have h1' : ¬ (size : Int) ≤ 0 := by omega
  have h2 : ¬ 32 < (size : Int) := by omega
  have h2' : ¬ 33 ≤ (size : Int) := by omega
  have h3 : ¬ (32 : Int) < (kl : Int) := by omega
  have h3' : ¬ (33 : Int) ≤ (kl : Int) := by omega
  have K := Kr.init w
  go_enter Tryd.func10, Tryd.ntmps10
  go_upto_region 4 with fail
  clear h1 h1' h2 h2' h3 h3'
  by_cases hk0 : kl = 0
  · subst hk0
    have HE := show Hid _ from (show bout (tH (bh0 0 size) (0 + len) (tx2 0 (fun _ => 0) len z) (nbt (0 + len))) = bsum 0 key size len z from by rw [bsum_tH, btx_tx0 key len (fun _ => 0) z] <;> rfl)
    go_upto_region 7 with fail
    refine wp_region_list ?_
    refine pureL (.slice kp 0 kc) rfl (fun _ => by kernel_rfl) ?_
    simp only [Act.put, List.setIfInBounds_toArray, List.set_cons_zero, List.set_cons_succ]
    refine pureL (.int .i64 ((0 : Nat) : Int)) rfl (fun w => lenS _ 22 5 kp 0 kc rfl Tryd.underlying22 rfl w) ?_
    simp only [Act.put, List.setIfInBounds_toArray, List.set_cons_zero, List.set_cons_succ]
    refine pureL (.int .i64 (size : Int)) rfl (fun _ => by kernel_rfl) ?_
    simp only [Act.put, List.setIfInBounds_toArray, List.set_cons_zero, List.set_cons_succ]
    refine callL rfl (fun _ => by kernel_rfl) (bbegin_any 0 size (by omega) hs2 _ (hg.below K.below hg.size)) ?_
    rintro e wa ⟨rfl, l⟩
    replace K := K.call l
    clear l
    refine ⟨_, rfl, ?_⟩
    simp only [Act.put, List.setIfInBounds_toArray, List.set_cons_zero, List.set_cons_succ]
    refine pureL (.slice none 0 0) rfl (fun _ => by kernel_rfl) ?_
    simp only [Act.put, List.setIfInBounds_toArray, List.set_cons_zero, List.set_cons_succ]
    refine pureL (.slice sp len cap) rfl (fun _ => by kernel_rfl) ?_
    simp only [Act.put, List.setIfInBounds_toArray, List.set_cons_zero, List.set_cons_succ]
    refine callL rfl (fun _ => by kernel_rfl) (brun_any (bh0 0 size) (bh0_in 0 size (by omega) hs2) none 0 0 (.inl rfl) (Nat.le_refl _) (fun _ => 0) (fun j hj => absurd hj (Nat.not_lt_zero j)) sp len cap hlen hcap z hz _ (hg.below K.below hg.size) (fun j hj => absurd hj (Nat.not_lt_zero j)) (hs.below K.below (Nat.le_refl _))) ?_
    rintro e wb ⟨rfl, l⟩
    replace K := K.call l
    clear l
    refine ⟨_, rfl, ?_⟩
    simp only [Act.put, List.setIfInBounds_toArray, List.set_cons_zero, List.set_cons_succ]
    refine callL rfl (fun _ => by kernel_rfl) (bbytes_any (tH (bh0 0 size) (0 + len) (tx2 0 (fun _ => 0) len z) (nbt (0 + len))) _) ?_
    rintro e wc ⟨rfl, l⟩
    replace K := K.call l
    clear l
    refine ⟨_, rfl, ?_⟩
    simp only [Act.put, List.setIfInBounds_toArray, List.set_cons_zero, List.set_cons_succ]
    rw [HE.out]
    refine allocL #[.int .u8 0, .int .u8 0, .int .u8 0, .int .u8 0, .int .u8 0, .int .u8 0, .int .u8 0, .int .u8 0, .int .u8 0, .int .u8 0, .int .u8 0, .int .u8 0, .int .u8 0, .int .u8 0, .int .u8 0, .int .u8 0, .int .u8 0, .int .u8 0, .int .u8 0, .int .u8 0, .int .u8 0, .int .u8 0, .int .u8 0, .int .u8 0, .int .u8 0, .int .u8 0, .int .u8 0, .int .u8 0, .int .u8 0, .int .u8 0, .int .u8 0, .int .u8 0] 29 rfl (fun _ => by kernel_rfl) ?_
    simp only [Act.put, List.setIfInBounds_toArray, List.set_cons_zero, List.set_cons_succ]
    refine storesL .u8 32 ((bsum 0 key size len z)) wc.heap.size 29 _ _ rfl rfl rfl rfl (room_of (key_zero _ _ _ rfl).there) (key_info' _) ?_
    simp only [Act.put]
    have zT := K.size
    replace K := K.fresh .u8 32 ((bsum 0 key size len z)) #[.int .u8 0, .int .u8 0, .int .u8 0, .int .u8 0, .int .u8 0, .int .u8 0, .int .u8 0, .int .u8 0, .int .u8 0, .int .u8 0, .int .u8 0, .int .u8 0, .int .u8 0, .int .u8 0, .int .u8 0, .int .u8 0, .int .u8 0, .int .u8 0, .int .u8 0, .int .u8 0, .int .u8 0, .int .u8 0, .int .u8 0, .int .u8 0, .int .u8 0, .int .u8 0, .int .u8 0, .int .u8 0, .int .u8 0, .int .u8 0, .int .u8 0, .int .u8 0] 29 (key_zero _ _ _ rfl).there
    generalize ((wc.alloc (.cells #[.int .u8 0, .int .u8 0, .int .u8 0, .int .u8 0, .int .u8 0, .int .u8 0, .int .u8 0, .int .u8 0, .int .u8 0, .int .u8 0, .int .u8 0, .int .u8 0, .int .u8 0, .int .u8 0, .int .u8 0, .int .u8 0, .int .u8 0, .int .u8 0, .int .u8 0, .int .u8 0, .int .u8 0, .int .u8 0, .int .u8 0, .int .u8 0, .int .u8 0, .int .u8 0, .int .u8 0, .int .u8 0, .int .u8 0, .int .u8 0, .int .u8 0, .int .u8 0] 29)).setCells wc.heap.size 0 (row .u8 32 ((bsum 0 key size len z)))) = wd at K ⊢
    generalize wc.heap.size = T at *
    show Exit.then _ _ _ _ _
    clear HE
    generalize hGe : (bsum 0 key size len z) = G at K
    go_upto_region 8 with fail
    have zY := K.size
    refine wp_region_list ?_
    refine pureL (.int .i64 (size : Int)) rfl (fun _ => by kernel_rfl) ?_
    simp only [Act.put, List.setIfInBounds_toArray, List.set_cons_zero, List.set_cons_succ]
    refine actL (w' := wd.alloc (.cells (row .u8 size (fun _ => 0)).toArray 5)) (.slice (some ⟨wd.heap.size, 0, none⟩) size size) rfl (makeOp 22 _ _ _ _ _ rfl rfl rfl (made8 size (by omega) wd)) ?_
    simp only [Act.put, List.setIfInBounds_toArray, List.set_cons_zero, List.set_cons_succ]
    refine pureL (.slice (some ⟨wd.heap.size, 0, none⟩) size size) rfl (fun _ => by kernel_rfl) ?_
    simp only [Act.put, List.setIfInBounds_toArray, List.set_cons_zero, List.set_cons_succ]
    replace K := K.box .u8 size (fun _ => 0) 5 wd.heap.size rfl
    generalize wd.alloc (.cells (row .u8 size (fun _ => 0)).toArray 5) = we at K ⊢
    generalize wd.heap.size = Y at *
    show Exit.then _ _ _ _ _
    go_upto_region 9 with fail
    refine wp_region_list ?_
    refine pureL (.slice (some ⟨Y, 0, none⟩) size size) rfl (fun _ => by kernel_rfl) ?_
    simp only [Act.put, List.setIfInBounds_toArray, List.set_cons_zero, List.set_cons_succ]
    refine pureL (.slice (some ⟨T, 0, none⟩) 32 32) rfl (fun w' => cutAll _ _ _ _ rfl rfl (bcutAll_key T w')) ?_
    simp only [Act.put, List.setIfInBounds_toArray, List.set_cons_zero, List.set_cons_succ]
    refine actL (.int .i64 (size : Int)) rfl (run_copy _ _ 22 22 5 rfl Tryd.underlying22 (by kernel_rfl) Y size size T 0 32 32 size size .u8 G G rfl rfl (by show size = min 32 size; omega) (Nat.le_refl _) (K.get _ _ _ _ List.mem_cons_self).there (fun j hj => by have hc := (K.get _ _ _ _ (List.mem_cons_of_mem _ List.mem_cons_self)).cell j (by omega); rw [Nat.zero_add]; exact hc) (fun j _ => by rw [Nat.zero_add])) ?_
    simp only [Act.put, List.setIfInBounds_toArray, List.set_cons_zero, List.set_cons_succ]
    have HR := Has.all (K.get _ _ _ _ List.mem_cons_self).there .u8 G
    have hzb := K.base
    have hB := (K.set [] Y .u8 size (fun _ => 0) G List.mem_cons_self (fun _ hp => by cases hp) (fun _ hp => by cases hp) (by have := (K.rows _ (List.mem_cons_of_mem _ List.mem_cons_self)).2; omega)).below
    clear K
    generalize we.setCells Y 0 (row .u8 size G) = wf at HR hB ⊢
    show Exit.then _ _ _ _ _
    go_wp2
    go_ret2
    exact ⟨some ⟨Y, 0, none⟩, size, rfl, by rw [hGe]; exact HR.src0, hB⟩
  · have g1 : (0 : Int) < (kl : Int) := by omega
    go_upto_region 5 with fail
    replace K := K.box .u8 64 (fun _ => 0) 5 (w.heap.size) rfl
    refine wp_region_list ?_
    refine actL (w' := w.alloc (.cells (row .u8 64 (fun _ => 0)).toArray 5)) (.slice (some ⟨w.heap.size, 0, none⟩) 64 64) rfl (makeOp 22 _ _ _ _ _ rfl rfl rfl (made8 64 (by decide) w)) ?_
    simp only [Act.put, List.setIfInBounds_toArray, List.set_cons_zero, List.set_cons_succ]
    refine pureL (.slice (some ⟨w.heap.size, 0, none⟩) 64 64) rfl (fun _ => by kernel_rfl) ?_
    simp only [Act.put, List.setIfInBounds_toArray, List.set_cons_zero, List.set_cons_succ]
    show Exit.then _ _ _ _ _
    go_upto_region 6 with fail
    generalize w.alloc (.cells (row .u8 64 (fun _ => 0)).toArray 5) = w0 at K ⊢
    have HR := K.get _ _ _ _ List.mem_cons_self
    replace K := K.loose [] (w.heap.size) .u8 64 (fun _ => 0) List.mem_cons_self (fun _ hp => by cases hp) (fun _ hp => by cases hp) (Nat.le_refl _)
    refine wp_region_list ?_
    refine pureL (.slice (some ⟨w.heap.size, 0, none⟩) 64 64) rfl (fun _ => by kernel_rfl) ?_
    simp only [Act.put, List.setIfInBounds_toArray, List.set_cons_zero, List.set_cons_succ]
    refine pureL (.slice kp kl kc) rfl (fun _ => by kernel_rfl) ?_
    simp only [Act.put, List.setIfInBounds_toArray, List.set_cons_zero, List.set_cons_succ]
    refine actL (.int .i64 (kl : Int)) rfl (run_copy_src _ _ 22 22 5 rfl Tryd.underlying22 (by kernel_rfl) (w.heap.size) 64 64 kl kc 64 kp key rfl rfl (by omega) (by omega) HR.there (hk.below K.below (Nat.le_refl _))) ?_
    simp only [Act.put, List.setIfInBounds_toArray, List.set_cons_zero, List.set_cons_succ]
    replace K := K.fill (w.heap.size) 64 List.mem_cons_self (row .u8 kl key)
    replace HR := (HR.part 0 kl (by omega) key).congr (g := padz kl key) (fun j hj => by
      unfold over padz
      by_cases e : j < kl
      · rw [if_pos (by omega), if_pos e, Nat.sub_zero]
      · rw [if_neg (by omega), if_neg e])
    replace K := K.settle [] (w.heap.size) .u8 64 (padz kl key) List.mem_cons_self (fun _ hq => by cases hq) (fun _ hq => by cases hq) HR
    generalize w0.setCells (w.heap.size) 0 (row .u8 kl key) = w1 at K ⊢
    clear HR w0
    have hbl : btl kl len = 64 + len := by unfold btl; rw [if_neg hk0]
    replace hbl := show Hid _ from hbl
    show Exit.then _ _ _ _ _
    have HE := show Hid _ from (show bout (tH (bh0 kl size) (64 + len) (tx2 64 (padz kl key) len z) (nbt (64 + len))) = bsum kl key size len z from by rw [bsum_tH, btx_tx2 kl key (by omega) len z, hbl.out] <;> rfl)
    go_upto_region 7 with fail
    refine wp_region_list ?_
    refine pureL (.slice kp kl kc) rfl (fun _ => by kernel_rfl) ?_
    simp only [Act.put, List.setIfInBounds_toArray, List.set_cons_zero, List.set_cons_succ]
    refine pureL (.int .i64 ((kl : Nat) : Int)) rfl (fun w => lenS _ 22 5 kp kl kc rfl Tryd.underlying22 rfl w) ?_
    simp only [Act.put, List.setIfInBounds_toArray, List.set_cons_zero, List.set_cons_succ]
    refine pureL (.int .i64 (size : Int)) rfl (fun _ => by kernel_rfl) ?_
    simp only [Act.put, List.setIfInBounds_toArray, List.set_cons_zero, List.set_cons_succ]
    refine callL rfl (fun _ => by kernel_rfl) (bbegin_any kl size (by omega) hs2 _ (hg.below K.below hg.size)) ?_
    rintro e wa ⟨rfl, l⟩
    replace K := K.call l
    clear l
    refine ⟨_, rfl, ?_⟩
    simp only [Act.put, List.setIfInBounds_toArray, List.set_cons_zero, List.set_cons_succ]
    refine pureL (.slice (some ⟨w.heap.size, 0, none⟩) 64 64) rfl (fun _ => by kernel_rfl) ?_
    simp only [Act.put, List.setIfInBounds_toArray, List.set_cons_zero, List.set_cons_succ]
    refine pureL (.slice sp len cap) rfl (fun _ => by kernel_rfl) ?_
    simp only [Act.put, List.setIfInBounds_toArray, List.set_cons_zero, List.set_cons_succ]
    refine callL rfl (fun _ => by kernel_rfl) (brun_any (bh0 kl size) (bh0_in kl size (by omega) hs2) (some ⟨w.heap.size, 0, none⟩) 64 64 (.inr rfl) (Nat.le_refl _) (padz kl key) (padz_in kl key hkk 64) sp len cap hlen hcap z hz _ (hg.below K.below hg.size) (K.get _ _ _ _ List.mem_cons_self).src0 (hs.below K.below (Nat.le_refl _))) ?_
    rintro e wb ⟨rfl, l⟩
    replace K := K.call l
    clear l
    refine ⟨_, rfl, ?_⟩
    simp only [Act.put, List.setIfInBounds_toArray, List.set_cons_zero, List.set_cons_succ]
    refine callL rfl (fun _ => by kernel_rfl) (bbytes_any (tH (bh0 kl size) (64 + len) (tx2 64 (padz kl key) len z) (nbt (64 + len))) _) ?_
    rintro e wc ⟨rfl, l⟩
    replace K := K.call l
    clear l
    refine ⟨_, rfl, ?_⟩
    simp only [Act.put, List.setIfInBounds_toArray, List.set_cons_zero, List.set_cons_succ]
    rw [HE.out]
    refine allocL #[.int .u8 0, .int .u8 0, .int .u8 0, .int .u8 0, .int .u8 0, .int .u8 0, .int .u8 0, .int .u8 0, .int .u8 0, .int .u8 0, .int .u8 0, .int .u8 0, .int .u8 0, .int .u8 0, .int .u8 0, .int .u8 0, .int .u8 0, .int .u8 0, .int .u8 0, .int .u8 0, .int .u8 0, .int .u8 0, .int .u8 0, .int .u8 0, .int .u8 0, .int .u8 0, .int .u8 0, .int .u8 0, .int .u8 0, .int .u8 0, .int .u8 0, .int .u8 0] 29 rfl (fun _ => by kernel_rfl) ?_
    simp only [Act.put, List.setIfInBounds_toArray, List.set_cons_zero, List.set_cons_succ]
    refine storesL .u8 32 ((bsum kl key size len z)) wc.heap.size 29 _ _ rfl rfl rfl rfl (room_of (key_zero _ _ _ rfl).there) (key_info' _) ?_
    simp only [Act.put]
    have zT := K.size
    replace K := K.fresh .u8 32 ((bsum kl key size len z)) #[.int .u8 0, .int .u8 0, .int .u8 0, .int .u8 0, .int .u8 0, .int .u8 0, .int .u8 0, .int .u8 0, .int .u8 0, .int .u8 0, .int .u8 0, .int .u8 0, .int .u8 0, .int .u8 0, .int .u8 0, .int .u8 0, .int .u8 0, .int .u8 0, .int .u8 0, .int .u8 0, .int .u8 0, .int .u8 0, .int .u8 0, .int .u8 0, .int .u8 0, .int .u8 0, .int .u8 0, .int .u8 0, .int .u8 0, .int .u8 0, .int .u8 0, .int .u8 0] 29 (key_zero _ _ _ rfl).there
    generalize ((wc.alloc (.cells #[.int .u8 0, .int .u8 0, .int .u8 0, .int .u8 0, .int .u8 0, .int .u8 0, .int .u8 0, .int .u8 0, .int .u8 0, .int .u8 0, .int .u8 0, .int .u8 0, .int .u8 0, .int .u8 0, .int .u8 0, .int .u8 0, .int .u8 0, .int .u8 0, .int .u8 0, .int .u8 0, .int .u8 0, .int .u8 0, .int .u8 0, .int .u8 0, .int .u8 0, .int .u8 0, .int .u8 0, .int .u8 0, .int .u8 0, .int .u8 0, .int .u8 0, .int .u8 0] 29)).setCells wc.heap.size 0 (row .u8 32 ((bsum kl key size len z)))) = wd at K ⊢
    generalize wc.heap.size = T at *
    show Exit.then _ _ _ _ _
    clear HE
    generalize hGe : (bsum kl key size len z) = G at K
    go_upto_region 8 with fail
    have zY := K.size
    refine wp_region_list ?_
    refine pureL (.int .i64 (size : Int)) rfl (fun _ => by kernel_rfl) ?_
    simp only [Act.put, List.setIfInBounds_toArray, List.set_cons_zero, List.set_cons_succ]
    refine actL (w' := wd.alloc (.cells (row .u8 size (fun _ => 0)).toArray 5)) (.slice (some ⟨wd.heap.size, 0, none⟩) size size) rfl (makeOp 22 _ _ _ _ _ rfl rfl rfl (made8 size (by omega) wd)) ?_
    simp only [Act.put, List.setIfInBounds_toArray, List.set_cons_zero, List.set_cons_succ]
    refine pureL (.slice (some ⟨wd.heap.size, 0, none⟩) size size) rfl (fun _ => by kernel_rfl) ?_
    simp only [Act.put, List.setIfInBounds_toArray, List.set_cons_zero, List.set_cons_succ]
    replace K := K.box .u8 size (fun _ => 0) 5 wd.heap.size rfl
    generalize wd.alloc (.cells (row .u8 size (fun _ => 0)).toArray 5) = we at K ⊢
    generalize wd.heap.size = Y at *
    show Exit.then _ _ _ _ _
    go_upto_region 9 with fail
    refine wp_region_list ?_
    refine pureL (.slice (some ⟨Y, 0, none⟩) size size) rfl (fun _ => by kernel_rfl) ?_
    simp only [Act.put, List.setIfInBounds_toArray, List.set_cons_zero, List.set_cons_succ]
    refine pureL (.slice (some ⟨T, 0, none⟩) 32 32) rfl (fun w' => cutAll _ _ _ _ rfl rfl (bcutAll_key T w')) ?_
    simp only [Act.put, List.setIfInBounds_toArray, List.set_cons_zero, List.set_cons_succ]
    refine actL (.int .i64 (size : Int)) rfl (run_copy _ _ 22 22 5 rfl Tryd.underlying22 (by kernel_rfl) Y size size T 0 32 32 size size .u8 G G rfl rfl (by show size = min 32 size; omega) (Nat.le_refl _) (K.get _ _ _ _ List.mem_cons_self).there (fun j hj => by have hc := (K.get _ _ _ _ (List.mem_cons_of_mem _ List.mem_cons_self)).cell j (by omega); rw [Nat.zero_add]; exact hc) (fun j _ => by rw [Nat.zero_add])) ?_
    simp only [Act.put, List.setIfInBounds_toArray, List.set_cons_zero, List.set_cons_succ]
    have HR := Has.all (K.get _ _ _ _ List.mem_cons_self).there .u8 G
    have hzb := K.base
    have hB := (K.set [] Y .u8 size (fun _ => 0) G List.mem_cons_self (fun _ hp => by cases hp) (fun _ hp => by cases hp) (by have := (K.rows _ (List.mem_cons_of_mem _ List.mem_cons_self)).2; omega)).below
    clear K
    generalize we.setCells Y 0 (row .u8 size G) = wf at HR hB ⊢
    show Exit.then _ _ _ _ _
    go_wp2
    go_ret2
    exact ⟨some ⟨Y, 0, none⟩, size, rfl, by rw [hGe]; exact HR.src0, hB⟩

theorem bsum_any : BSumOK := by
  intro kp kl kc _ _ _ key hkk size _ sp len cap hlen hcap _ z hz w hg hk hs
  by_cases hbad : size < 1 ∨ 32 < size ∨ 32 < kl
  · have e1 : bL kl size = 0 := by unfold bL; rw [if_pos hbad]
    have e2 : bE kl size = 1 := by unfold bE; rw [if_pos hbad]
    rw [e1, e2]
    refine (bsum_bad kp kl kc size sp len cap hbad w).mono fun e w' h => ?_
    exact ⟨none, 0, h.1, fun j hj => absurd hj (Nat.not_lt_zero j), h.2⟩
  · obtain ⟨s, rfl⟩ := Int.eq_ofNat_of_zero_le (show 0 ≤ size by omega)
    have e1 : bL kl (s : Int) = s := by unfold bL; rw [if_neg hbad, Int.toNat_natCast]
    have e2 : bE kl (s : Int) = 0 := by unfold bE; rw [if_neg hbad]
    rw [e1, e2, Int.toNat_natCast]
    exact bsum_good kp kl kc key (by omega) hkk s (by omega) (by omega) sp len cap hlen hcap z hz w hg hk hs
end Go.Proofs.YtmchfdfmcobenaaDoor
