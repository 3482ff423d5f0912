/- The walk of BlakeNoughts. -/
import Derived.Test.YtmchfdfmcobenaaDoorBw
import Derived.Test.YtmchfdfmcobenaaDoorBv
import Derived.Test.YtmchfdfmcobenaaDoorEr
namespace Go.Proofs.YtmchfdfmcobenaaDoor
open Go.RowKit

set_option maxRecDepth 10000 in
set_option maxHeartbeats 8000000 in
theorem law_BlakeNoughts (hS : BSumOK) (hH : BHashOK) (hM : BMacOK) (kp : Option Addr) (kl kc : Nat) (hlk : kl ≤ 140737488351232) (hck : kl ≤ kc) (hnk : kp = none → kc = 0) (key : Nat → Int) (hik : In 256 kl key) (sp : Option Addr) (len cap : Nat) (hlb : len ≤ 140737488351232) (hcb : len ≤ cap) (hnb : sp = none → cap = 0) (z : Nat → Int) (hib : In 256 len z) (more : Int) (hmo : -9223372036854775808 ≤ more ∧ more < 9223372036854775808) (w : World) (hg : BGlob w) (hsk : Src w kp kl key) (hsb : Src w sp len z) :
    Calls Tryd.prog 6 #[.slice kp kl kc, .slice sp len cap, .int .i64 more] w fun e w' => e = .returned (.bool true) ∧ Below w.heap.size w w' := by
  have K := Kr.init w
  go_enter Tryd.func6, Tryd.ntmps6
  go_upto_region 1 with fail
  refine wp_region_list ?_
  refine callL rfl (fun _ => by kernel_rfl) (bshown_any hS hH _ (hg.below K.below hg.size)) ?_
  rintro e w1 ⟨rfl, l⟩
  replace K := K.call l
  clear l
  refine ⟨_, rfl, ?_⟩
  simp only [Act.put, List.setIfInBounds_toArray, List.set_cons_zero, List.set_cons_succ]
  refine pureL (.bool true) rfl (fun _ => by kernel_rfl) ?_
  simp only [Act.put, List.setIfInBounds_toArray, List.set_cons_zero, List.set_cons_succ]
  show Exit.then _ _ _ _ _
  go_upto_region 2 with fail
  refine wp_region_list ?_
  refine pureL (.slice kp kl kc) rfl (fun _ => by kernel_rfl) ?_
  simp only [Act.put, List.setIfInBounds_toArray, List.set_cons_zero, List.set_cons_succ]
  refine pureL (.slice sp len cap) rfl (fun _ => by kernel_rfl) ?_
  simp only [Act.put, List.setIfInBounds_toArray, List.set_cons_zero, List.set_cons_succ]
  refine callL rfl (fun _ => by kernel_rfl) (hM kp kl kc (by omega) hck hnk key hik sp len cap (by omega) hcb hnb z hib _ (hg.below K.below hg.size) (hsk.below K.below (Nat.le_refl _)) (hsb.below K.below (Nat.le_refl _))) ?_
  rintro e w2 ⟨rfl, l⟩
  replace K := K.call l
  clear l
  refine ⟨_, rfl, ?_⟩
  simp only [Act.put, List.setIfInBounds_toArray, List.set_cons_zero, List.set_cons_succ]
  refine allocL #[.int .u8 0, .int .u8 0, .int .u8 0, .int .u8 0, .int .u8 0, .int .u8 0, .int .u8 0, .int .u8 0, .int .u8 0, .int .u8 0, .int .u8 0, .int .u8 0, .int .u8 0, .int .u8 0, .int .u8 0, .int .u8 0, .int .u8 0, .int .u8 0, .int .u8 0, .int .u8 0, .int .u8 0, .int .u8 0, .int .u8 0, .int .u8 0, .int .u8 0, .int .u8 0, .int .u8 0, .int .u8 0, .int .u8 0, .int .u8 0, .int .u8 0, .int .u8 0] 29 rfl (fun _ => by kernel_rfl) ?_
  simp only [Act.put, List.setIfInBounds_toArray, List.set_cons_zero, List.set_cons_succ]
  refine storesL .u8 32 (bmac kl key len z) w2.heap.size 29 _ _ rfl rfl rfl rfl (room_of (key_zero _ _ _ rfl).there) (key_info' _) ?_
  simp only [Act.put]
  have zT := K.size
  have hbl : Below w2.heap.size w2 ((w2.alloc (.cells #[.int .u8 0, .int .u8 0, .int .u8 0, .int .u8 0, .int .u8 0, .int .u8 0, .int .u8 0, .int .u8 0, .int .u8 0, .int .u8 0, .int .u8 0, .int .u8 0, .int .u8 0, .int .u8 0, .int .u8 0, .int .u8 0, .int .u8 0, .int .u8 0, .int .u8 0, .int .u8 0, .int .u8 0, .int .u8 0, .int .u8 0, .int .u8 0, .int .u8 0, .int .u8 0, .int .u8 0, .int .u8 0, .int .u8 0, .int .u8 0, .int .u8 0, .int .u8 0] 29)).setCells w2.heap.size 0 (row .u8 32 (bmac kl key len z))) := below_setAll ((Below.refl w2.heap.size w2).alloc (Nat.le_refl _) _) _ (Nat.le_refl _) 0 _
  replace K := K.fresh .u8 32 (bmac kl key len z) #[.int .u8 0, .int .u8 0, .int .u8 0, .int .u8 0, .int .u8 0, .int .u8 0, .int .u8 0, .int .u8 0, .int .u8 0, .int .u8 0, .int .u8 0, .int .u8 0, .int .u8 0, .int .u8 0, .int .u8 0, .int .u8 0, .int .u8 0, .int .u8 0, .int .u8 0, .int .u8 0, .int .u8 0, .int .u8 0, .int .u8 0, .int .u8 0, .int .u8 0, .int .u8 0, .int .u8 0, .int .u8 0, .int .u8 0, .int .u8 0, .int .u8 0, .int .u8 0] 29 (key_zero _ _ _ rfl).there
  clear hbl
  generalize ((w2.alloc (.cells #[.int .u8 0, .int .u8 0, .int .u8 0, .int .u8 0, .int .u8 0, .int .u8 0, .int .u8 0, .int .u8 0, .int .u8 0, .int .u8 0, .int .u8 0, .int .u8 0, .int .u8 0, .int .u8 0, .int .u8 0, .int .u8 0, .int .u8 0, .int .u8 0, .int .u8 0, .int .u8 0, .int .u8 0, .int .u8 0, .int .u8 0, .int .u8 0, .int .u8 0, .int .u8 0, .int .u8 0, .int .u8 0, .int .u8 0, .int .u8 0, .int .u8 0, .int .u8 0] 29)).setCells w2.heap.size 0 (row .u8 32 (bmac kl key len z))) = w3 at K  ⊢
  generalize w2.heap.size = T at *
  show Exit.then _ _ _ _ _
  by_cases hk : 64 < kl
  · have g1 : (64 : Int) < (kl : Int) := by omega
    have g2 : (65 : Int) ≤ (kl : Int) := by omega
    go_upto_region 4 with fail
    refine wp_region_list ?_
    refine pureL (.slice kp kl kc) rfl (fun _ => by kernel_rfl) ?_
    simp only [Act.put, List.setIfInBounds_toArray, List.set_cons_zero, List.set_cons_succ]
    refine callL rfl (fun _ => by kernel_rfl) (hH kp kl kc (by omega) hck hnk key hik _ (hg.below K.below hg.size) (hsk.below K.below (Nat.le_refl _))) ?_
    rintro e w4 ⟨rfl, l⟩
    replace K := K.call l
    clear l
    refine ⟨_, rfl, ?_⟩
    simp only [Act.put, List.setIfInBounds_toArray, List.set_cons_zero, List.set_cons_succ]
    refine allocL #[.int .u8 0, .int .u8 0, .int .u8 0, .int .u8 0, .int .u8 0, .int .u8 0, .int .u8 0, .int .u8 0, .int .u8 0, .int .u8 0, .int .u8 0, .int .u8 0, .int .u8 0, .int .u8 0, .int .u8 0, .int .u8 0, .int .u8 0, .int .u8 0, .int .u8 0, .int .u8 0, .int .u8 0, .int .u8 0, .int .u8 0, .int .u8 0, .int .u8 0, .int .u8 0, .int .u8 0, .int .u8 0, .int .u8 0, .int .u8 0, .int .u8 0, .int .u8 0] 29 rfl (fun _ => by kernel_rfl) ?_
    simp only [Act.put, List.setIfInBounds_toArray, List.set_cons_zero, List.set_cons_succ]
    refine storesL .u8 32 (bhash kl key) w4.heap.size 29 _ _ rfl rfl rfl rfl (room_of (key_zero _ _ _ rfl).there) (key_info' _) ?_
    simp only [Act.put]
    have zX := K.size
    have hbl : Below w4.heap.size w4 ((w4.alloc (.cells #[.int .u8 0, .int .u8 0, .int .u8 0, .int .u8 0, .int .u8 0, .int .u8 0, .int .u8 0, .int .u8 0, .int .u8 0, .int .u8 0, .int .u8 0, .int .u8 0, .int .u8 0, .int .u8 0, .int .u8 0, .int .u8 0, .int .u8 0, .int .u8 0, .int .u8 0, .int .u8 0, .int .u8 0, .int .u8 0, .int .u8 0, .int .u8 0, .int .u8 0, .int .u8 0, .int .u8 0, .int .u8 0, .int .u8 0, .int .u8 0, .int .u8 0, .int .u8 0] 29)).setCells w4.heap.size 0 (row .u8 32 (bhash kl key))) := below_setAll ((Below.refl w4.heap.size w4).alloc (Nat.le_refl _) _) _ (Nat.le_refl _) 0 _
    replace K := K.fresh .u8 32 (bhash kl key) #[.int .u8 0, .int .u8 0, .int .u8 0, .int .u8 0, .int .u8 0, .int .u8 0, .int .u8 0, .int .u8 0, .int .u8 0, .int .u8 0, .int .u8 0, .int .u8 0, .int .u8 0, .int .u8 0, .int .u8 0, .int .u8 0, .int .u8 0, .int .u8 0, .int .u8 0, .int .u8 0, .int .u8 0, .int .u8 0, .int .u8 0, .int .u8 0, .int .u8 0, .int .u8 0, .int .u8 0, .int .u8 0, .int .u8 0, .int .u8 0, .int .u8 0, .int .u8 0] 29 (key_zero _ _ _ rfl).there
    clear hbl
    generalize ((w4.alloc (.cells #[.int .u8 0, .int .u8 0, .int .u8 0, .int .u8 0, .int .u8 0, .int .u8 0, .int .u8 0, .int .u8 0, .int .u8 0, .int .u8 0, .int .u8 0, .int .u8 0, .int .u8 0, .int .u8 0, .int .u8 0, .int .u8 0, .int .u8 0, .int .u8 0, .int .u8 0, .int .u8 0, .int .u8 0, .int .u8 0, .int .u8 0, .int .u8 0, .int .u8 0, .int .u8 0, .int .u8 0, .int .u8 0, .int .u8 0, .int .u8 0, .int .u8 0, .int .u8 0] 29)).setCells w4.heap.size 0 (row .u8 32 (bhash kl key))) = w5 at K  ⊢
    generalize w4.heap.size = X at *
    show Exit.then _ _ _ _ _
    go_upto_region 5 with fail
    refine wp_region_held_drew (S := fun w' => Kr w (X + 1) [(X, .u8, 32, bhash kl key), (T, .u8, 32, bmac kl key len z)] [] w') (by kernel_rfl) K.drew ?_
    clear K
    intro K
    refine pureH (i := 0) (some 20) rfl (.bool true) rfl rfl (fun _ => by kernel_rfl) (by kernel_rfl) (by kernel_rfl) (by kernel_rfl) (fun _ _ _ h => h) K ?_
    simp only [Act.put, List.setIfInBounds_toArray, List.set_cons_zero, List.set_cons_succ]
    refine pureH (i := 1) (some 21) rfl (.bool true) rfl rfl (fun _ => by kernel_rfl) (by kernel_rfl) (by kernel_rfl) (by kernel_rfl) (fun _ _ _ h => h) K ?_
    simp only [Act.put, List.setIfInBounds_toArray, List.set_cons_zero, List.set_cons_succ]
    refine pureH (i := 2) (some 22) rfl (.slice (some ⟨X, 0, none⟩) 32 32) rfl rfl (fun _ => by kernel_rfl) (by kernel_rfl) (by kernel_rfl) (by kernel_rfl) (fun _ _ _ h => h) K ?_
    simp only [Act.put, List.setIfInBounds_toArray, List.set_cons_zero, List.set_cons_succ]
    refine pureH (i := 3) (some 23) rfl (.slice sp len cap) rfl rfl (fun _ => by kernel_rfl) (by kernel_rfl) (by kernel_rfl) (by kernel_rfl) (fun _ _ _ h => h) K ?_
    simp only [Act.put, List.setIfInBounds_toArray, List.set_cons_zero, List.set_cons_succ]
    refine rowKH (i := 5) (some 25) rfl .u8 32 (bmac kl key len z) (T) 0 29 _ _ rfl rfl rfl rfl (by kernel_rfl) (by kernel_rfl) (by kernel_rfl) (fun _ _ _ h => h) Tryd.underlying29 rfl (key_info _) K (fun _ h => (h.get _ _ _ _ (List.mem_cons_of_mem _ List.mem_cons_self)).range) ?_
    simp only [Act.put, List.setIfInBounds_toArray, List.set_cons_zero, List.set_cons_succ]
    refine callH (i := 4) (some 24) rfl (by kernel_rfl) rfl rfl (fun _ => by kernel_rfl) (hM (some ⟨X, 0, none⟩) 32 32 (by omega) (by omega) (fun e => by cases e) (bhash kl key) (bhash_in _ _ _) sp len cap (by omega) hcb hnb z hib _ (hg.below K.below hg.size) (K.get _ _ _ _ List.mem_cons_self).src0 (hsb.below K.below (Nat.le_refl _))) ?_
    rintro e w6 ⟨rfl, l⟩
    replace K := K.call l
    clear l
    refine ⟨_, rfl, K, ?_⟩
    simp only [Act.put, List.setIfInBounds_toArray, List.set_cons_zero, List.set_cons_succ]
    refine pureH (i := 6) (some 26) rfl (.bool true) rfl rfl (fun w => eqlV 32 (bmac 32 (bhash kl key) len z) (bmac kl key len z) 29 5 _ _ _ rfl rfl rfl Tryd.underlying29 Tryd.underlying5 (fun _ => by kernel_rfl) (by kernel_rfl) (bhash_in _ _ _) (bhash_in _ _ _) true (decide_eq_true (by rw [bmac_hash kl key hk])) w) (by kernel_rfl) (by kernel_rfl) (by kernel_rfl) (fun _ _ _ h => h) K ?_
    simp only [Act.put, List.setIfInBounds_toArray, List.set_cons_zero, List.set_cons_succ]
    refine pureH (i := 7) (some 27) rfl (.bool true) rfl rfl (fun _ => by kernel_rfl) (by kernel_rfl) (by kernel_rfl) (by kernel_rfl) (fun _ _ _ h => h) K ?_
    simp only [Act.put, List.setIfInBounds_toArray, List.set_cons_zero, List.set_cons_succ]
    refine pureH (i := 8) (some 6) rfl (.bool true) rfl rfl (fun _ => by kernel_rfl) (by kernel_rfl) (by kernel_rfl) (by kernel_rfl) (fun _ _ _ h => h) K ?_
    simp only [Act.put, List.setIfInBounds_toArray, List.set_cons_zero, List.set_cons_succ]
    refine wpAnyH_done (by kernel_rfl) ?_ _
    have hB := K.below
    clear K
    go_wp2
    go_ret
    exact ⟨rfl, hB⟩
  · have g1 : ¬ (64 : Int) < (kl : Int) := by omega
    have g2 : ¬ (65 : Int) ≤ (kl : Int) := by omega
    by_cases hm : more < 0
    · obtain ⟨s, hse⟩ := Int.eq_ofNat_of_zero_le (show 0 ≤ -(more + 1) by omega)
      go_upto_region 7 with fail
      refine wp_region_list ?_
      refine pureL (.int .i64 more) rfl (fun _ => by kernel_rfl) ?_
      simp only [Act.put, List.setIfInBounds_toArray, List.set_cons_zero, List.set_cons_succ]
      refine pureL (.int .i64 (more + 1)) rfl (fun w => addI .i64 _ _ _ _ _ _ _ rfl rfl rfl (by rw [IntKind.wrap_i64]; omega) w) ?_
      simp only [Act.put, List.setIfInBounds_toArray, List.set_cons_zero, List.set_cons_succ]
      refine pureL (.int .i64 ((s : Nat) : Int)) rfl (fun w => negI .i64 _ _ _ _ rfl rfl (by rw [IntKind.wrap_i64]; omega) w) ?_
      simp only [Act.put, List.setIfInBounds_toArray, List.set_cons_zero, List.set_cons_succ]
      refine pureL (.int .i64 ((s : Nat) : Int)) rfl (fun _ => by kernel_rfl) ?_
      simp only [Act.put, List.setIfInBounds_toArray, List.set_cons_zero, List.set_cons_succ]
      show Exit.then _ _ _ _ _
      obtain ⟨N, hN⟩ : ∃ N, s % (65 - kl) = N := ⟨_, rfl⟩
      have hN2 : N < 65 - kl := by rw [← hN]; exact Nat.mod_lt _ (by omega)
      have hN3 : (s : Int).tmod ((65 - kl : Nat) : Int) = (N : Int) := by rw [Int.tmod_eq_emod_of_nonneg (by omega), ← hN]; exact (Int.natCast_emod s (65 - kl)).symm
      clear hN
      go_upto_region 8 with fail
      refine wp_region_list ?_
      refine pureL (.int .i64 ((s : Nat) : Int)) rfl (fun _ => by kernel_rfl) ?_
      simp only [Act.put, List.setIfInBounds_toArray, List.set_cons_zero, List.set_cons_succ]
      refine pureL (.slice kp kl kc) rfl (fun _ => by kernel_rfl) ?_
      simp only [Act.put, List.setIfInBounds_toArray, List.set_cons_zero, List.set_cons_succ]
      refine pureL (.int .i64 (kl : Int)) rfl (fun w => lenS _ 22 5 kp kl kc rfl Tryd.underlying22 rfl w) ?_
      simp only [Act.put, List.setIfInBounds_toArray, List.set_cons_zero, List.set_cons_succ]
      refine pureL (.int .i64 ((65 - kl : Nat) : Int)) rfl (fun w => subI .i64 _ _ _ _ _ _ _ rfl rfl rfl (by rw [IntKind.wrap_i64]; omega) w) ?_
      simp only [Act.put, List.setIfInBounds_toArray, List.set_cons_zero, List.set_cons_succ]
      refine pureL (.int .i64 ((N : Nat) : Int)) rfl (fun w => remI .i64 _ _ _ _ _ _ _ rfl rfl rfl (by omega) hN3 w) ?_
      simp only [Act.put, List.setIfInBounds_toArray, List.set_cons_zero, List.set_cons_succ]
      refine pureL (.int .i64 ((N : Nat) : Int)) rfl (fun _ => by kernel_rfl) ?_
      simp only [Act.put, List.setIfInBounds_toArray, List.set_cons_zero, List.set_cons_succ]
      show Exit.then _ _ _ _ _
      go_upto_region 9 with fail
      refine wp_region_held_drew (S := fun w' => Kr w (T + 1) [(T, .u8, 32, bmac kl key len z)] [] w') (by kernel_rfl) K.drew ?_
      clear K
      intro K
      generalize w3.drew = w4 at K ⊢
      refine pureH (i := 0) (some 38) rfl (.bool true) rfl rfl (fun _ => by kernel_rfl) (by kernel_rfl) (by kernel_rfl) (by kernel_rfl) (fun _ _ _ h => h) K ?_
      simp only [Act.put, List.setIfInBounds_toArray, List.set_cons_zero, List.set_cons_succ]
      refine pureH (i := 1) (some 39) rfl (.bool true) rfl rfl (fun _ => by kernel_rfl) (by kernel_rfl) (by kernel_rfl) (by kernel_rfl) (fun _ _ _ h => h) K ?_
      simp only [Act.put, List.setIfInBounds_toArray, List.set_cons_zero, List.set_cons_succ]
      refine pureH (i := 3) (some 41) rfl (.slice kp kl kc) rfl rfl (fun _ => by kernel_rfl) (by kernel_rfl) (by kernel_rfl) (by kernel_rfl) (fun _ _ _ h => h) K ?_
      simp only [Act.put, List.setIfInBounds_toArray, List.set_cons_zero, List.set_cons_succ]
      refine pureH (i := 5) (some 43) rfl (.int .i64 ((N : Nat) : Int)) rfl rfl (fun _ => by kernel_rfl) (by kernel_rfl) (by kernel_rfl) (by kernel_rfl) (fun _ _ _ h => h) K ?_
      simp only [Act.put, List.setIfInBounds_toArray, List.set_cons_zero, List.set_cons_succ]
      refine pureH (i := 7) (some 45) rfl (.slice sp len cap) rfl rfl (fun _ => by kernel_rfl) (by kernel_rfl) (by kernel_rfl) (by kernel_rfl) (fun _ _ _ h => h) K ?_
      simp only [Act.put, List.setIfInBounds_toArray, List.set_cons_zero, List.set_cons_succ]
      refine rowKH (i := 9) (some 47) rfl .u8 32 (bmac kl key len z) (T) 0 29 _ _ rfl rfl rfl rfl (by kernel_rfl) (by kernel_rfl) (by kernel_rfl) (fun _ _ _ h => h) Tryd.underlying29 rfl (key_info _) K (fun _ h => (h.get _ _ _ _ List.mem_cons_self).range) ?_
      simp only [Act.put, List.setIfInBounds_toArray, List.set_cons_zero, List.set_cons_succ]
      have K1 := K.call ((Below.refl w4.heap.size w4).alloc (Nat.le_refl _) (.cells #[] 5))
      refine actH (i := 2) (w' := w4.alloc (.cells #[] 5)) (some 40) rfl (.slice (some ⟨w4.heap.size, 0, none⟩) 0 0) (by kernel_rfl) rfl rfl (by kernel_rfl) K1 ?_
      simp only [Act.put, List.setIfInBounds_toArray, List.set_cons_zero, List.set_cons_succ]
      have ho0 : Own (w4.alloc (.cells #[] 5)) (T + 1) 5 .u8 0 key (.slice (some ⟨w4.heap.size, 0, none⟩) 0 0) := Own.lit w4 (T + 1) 5 .u8 0 key K.size (by unfold maxLen; omega)
      obtain ⟨v1, w5, hr1, ho1, hg1, _⟩ := run_append_Own (P := Tryd.prog) (ty := 22) Tryd.underlying22 one8 ho0 kp kl kc key (hsk.below K1.below (Nat.le_refl _)) hnk (by unfold maxLen; omega) (by omega) K1.size
      have K2 := K1.grown hg1 (fun b hb => (World.ownsRow.lt ho0 b hb).1)
      refine actH (i := 4) (some 42) rfl v1 (by kernel_rfl) rfl rfl (appendOp _ _ 22 _ _ _ rfl rfl rfl hr1) K2 ?_
      simp only [Act.put, List.setIfInBounds_toArray, List.set_cons_zero, List.set_cons_succ]
      rw [Nat.zero_add] at ho1
      replace ho1 : Own w5 (T + 1) 5 .u8 kl key v1 := ho1.congr (fun j _ => by unfold app; rw [if_neg (by omega), Nat.sub_zero])
      obtain ⟨v2, w6, hr2, ho2, hg2, _⟩ := run_append_zeros (P := Tryd.prog) (ty := 22) (u := 3) Tryd.underlying22 Tryd.underlying3 one8 ho1 N (by omega) (by unfold maxLen; omega) (by omega) K2.size
      have K3 := K2.grown hg2 (fun b hb => (World.ownsRow.lt ho1 b hb).1)
      refine actH (i := 6) (some 44) rfl v2 (by kernel_rfl) rfl rfl (appendOp2 _ _ 22 3 _ _ _ rfl rfl rfl hr2) K3 ?_
      simp only [Act.put, List.setIfInBounds_toArray, List.set_cons_zero, List.set_cons_succ]
      clear K K1 K2 hr1 hr2 ho0 ho1 hg1 hg2
      rename Kr w (T + 1) [(T, .u8, 32, bmac kl key len z)] [] w6 => K
      obtain ⟨qk, ck, rfl, hqk, sk⟩ := ho2.bytes
      refine callH (i := 8) (some 46) rfl (by kernel_rfl) rfl rfl (fun _ => by kernel_rfl) (hM qk (kl + N) ck (by omega) hqk ho2.nilCap (app key kl (fun _ => 0)) (app_in kl N _ _ hik (znone_in N)) sp len cap (by omega) hcb hnb z hib _ (hg.below K.below hg.size) sk (hsb.below K.below (Nat.le_refl _))) ?_
      rintro e w7 ⟨rfl, l⟩
      replace K := K.call l
      clear l
      refine ⟨_, rfl, K, ?_⟩
      simp only [Act.put, List.setIfInBounds_toArray, List.set_cons_zero, List.set_cons_succ]
      refine pureH (i := 10) (some 48) rfl (.bool true) rfl rfl (fun w => eqlV 32 (bmac (kl + N) (app key kl (fun _ => 0)) len z) (bmac kl key len z) 29 5 _ _ _ rfl rfl rfl Tryd.underlying29 Tryd.underlying5 (fun _ => by kernel_rfl) (by kernel_rfl) (bhash_in _ _ _) (bhash_in _ _ _) true (decide_eq_true (by rw [bmac_pad kl N key (by omega)])) w) (by kernel_rfl) (by kernel_rfl) (by kernel_rfl) (fun _ _ _ h => h) K ?_
      simp only [Act.put, List.setIfInBounds_toArray, List.set_cons_zero, List.set_cons_succ]
      refine pureH (i := 11) (some 49) rfl (.bool true) rfl rfl (fun _ => by kernel_rfl) (by kernel_rfl) (by kernel_rfl) (by kernel_rfl) (fun _ _ _ h => h) K ?_
      simp only [Act.put, List.setIfInBounds_toArray, List.set_cons_zero, List.set_cons_succ]
      refine pureH (i := 12) (some 6) rfl (.bool true) rfl rfl (fun _ => by kernel_rfl) (by kernel_rfl) (by kernel_rfl) (by kernel_rfl) (fun _ _ _ h => h) K ?_
      simp only [Act.put, List.setIfInBounds_toArray, List.set_cons_zero, List.set_cons_succ]
      refine wpAnyH_done (by kernel_rfl) ?_ _
      have hB := K.below
      clear K
      go_wp2
      go_ret
      exact ⟨rfl, hB⟩
    · obtain ⟨s, rfl⟩ := Int.eq_ofNat_of_zero_le (show 0 ≤ more by omega)
      obtain ⟨N, hN⟩ : ∃ N, s % (65 - kl) = N := ⟨_, rfl⟩
      have hN2 : N < 65 - kl := by rw [← hN]; exact Nat.mod_lt _ (by omega)
      have hN3 : (s : Int).tmod ((65 - kl : Nat) : Int) = (N : Int) := by rw [Int.tmod_eq_emod_of_nonneg (by omega), ← hN]; exact (Int.natCast_emod s (65 - kl)).symm
      clear hN
      go_upto_region 8 with fail
      refine wp_region_list ?_
      refine pureL (.int .i64 ((s : Nat) : Int)) rfl (fun _ => by kernel_rfl) ?_
      simp only [Act.put, List.setIfInBounds_toArray, List.set_cons_zero, List.set_cons_succ]
      refine pureL (.slice kp kl kc) rfl (fun _ => by kernel_rfl) ?_
      simp only [Act.put, List.setIfInBounds_toArray, List.set_cons_zero, List.set_cons_succ]
      refine pureL (.int .i64 (kl : Int)) rfl (fun w => lenS _ 22 5 kp kl kc rfl Tryd.underlying22 rfl w) ?_
      simp only [Act.put, List.setIfInBounds_toArray, List.set_cons_zero, List.set_cons_succ]
      refine pureL (.int .i64 ((65 - kl : Nat) : Int)) rfl (fun w => subI .i64 _ _ _ _ _ _ _ rfl rfl rfl (by rw [IntKind.wrap_i64]; omega) w) ?_
      simp only [Act.put, List.setIfInBounds_toArray, List.set_cons_zero, List.set_cons_succ]
      refine pureL (.int .i64 ((N : Nat) : Int)) rfl (fun w => remI .i64 _ _ _ _ _ _ _ rfl rfl rfl (by omega) hN3 w) ?_
      simp only [Act.put, List.setIfInBounds_toArray, List.set_cons_zero, List.set_cons_succ]
      refine pureL (.int .i64 ((N : Nat) : Int)) rfl (fun _ => by kernel_rfl) ?_
      simp only [Act.put, List.setIfInBounds_toArray, List.set_cons_zero, List.set_cons_succ]
      show Exit.then _ _ _ _ _
      go_upto_region 9 with fail
      refine wp_region_held_drew (S := fun w' => Kr w (T + 1) [(T, .u8, 32, bmac kl key len z)] [] w') (by kernel_rfl) K.drew ?_
      clear K
      intro K
      generalize w3.drew = w4 at K ⊢
      refine pureH (i := 0) (some 38) rfl (.bool true) rfl rfl (fun _ => by kernel_rfl) (by kernel_rfl) (by kernel_rfl) (by kernel_rfl) (fun _ _ _ h => h) K ?_
      simp only [Act.put, List.setIfInBounds_toArray, List.set_cons_zero, List.set_cons_succ]
      refine pureH (i := 1) (some 39) rfl (.bool true) rfl rfl (fun _ => by kernel_rfl) (by kernel_rfl) (by kernel_rfl) (by kernel_rfl) (fun _ _ _ h => h) K ?_
      simp only [Act.put, List.setIfInBounds_toArray, List.set_cons_zero, List.set_cons_succ]
      refine pureH (i := 3) (some 41) rfl (.slice kp kl kc) rfl rfl (fun _ => by kernel_rfl) (by kernel_rfl) (by kernel_rfl) (by kernel_rfl) (fun _ _ _ h => h) K ?_
      simp only [Act.put, List.setIfInBounds_toArray, List.set_cons_zero, List.set_cons_succ]
      refine pureH (i := 5) (some 43) rfl (.int .i64 ((N : Nat) : Int)) rfl rfl (fun _ => by kernel_rfl) (by kernel_rfl) (by kernel_rfl) (by kernel_rfl) (fun _ _ _ h => h) K ?_
      simp only [Act.put, List.setIfInBounds_toArray, List.set_cons_zero, List.set_cons_succ]
      refine pureH (i := 7) (some 45) rfl (.slice sp len cap) rfl rfl (fun _ => by kernel_rfl) (by kernel_rfl) (by kernel_rfl) (by kernel_rfl) (fun _ _ _ h => h) K ?_
      simp only [Act.put, List.setIfInBounds_toArray, List.set_cons_zero, List.set_cons_succ]
      refine rowKH (i := 9) (some 47) rfl .u8 32 (bmac kl key len z) (T) 0 29 _ _ rfl rfl rfl rfl (by kernel_rfl) (by kernel_rfl) (by kernel_rfl) (fun _ _ _ h => h) Tryd.underlying29 rfl (key_info _) K (fun _ h => (h.get _ _ _ _ List.mem_cons_self).range) ?_
      simp only [Act.put, List.setIfInBounds_toArray, List.set_cons_zero, List.set_cons_succ]
      have K1 := K.call ((Below.refl w4.heap.size w4).alloc (Nat.le_refl _) (.cells #[] 5))
      refine actH (i := 2) (w' := w4.alloc (.cells #[] 5)) (some 40) rfl (.slice (some ⟨w4.heap.size, 0, none⟩) 0 0) (by kernel_rfl) rfl rfl (by kernel_rfl) K1 ?_
      simp only [Act.put, List.setIfInBounds_toArray, List.set_cons_zero, List.set_cons_succ]
      have ho0 : Own (w4.alloc (.cells #[] 5)) (T + 1) 5 .u8 0 key (.slice (some ⟨w4.heap.size, 0, none⟩) 0 0) := Own.lit w4 (T + 1) 5 .u8 0 key K.size (by unfold maxLen; omega)
      obtain ⟨v1, w5, hr1, ho1, hg1, _⟩ := run_append_Own (P := Tryd.prog) (ty := 22) Tryd.underlying22 one8 ho0 kp kl kc key (hsk.below K1.below (Nat.le_refl _)) hnk (by unfold maxLen; omega) (by omega) K1.size
      have K2 := K1.grown hg1 (fun b hb => (World.ownsRow.lt ho0 b hb).1)
      refine actH (i := 4) (some 42) rfl v1 (by kernel_rfl) rfl rfl (appendOp _ _ 22 _ _ _ rfl rfl rfl hr1) K2 ?_
      simp only [Act.put, List.setIfInBounds_toArray, List.set_cons_zero, List.set_cons_succ]
      rw [Nat.zero_add] at ho1
      replace ho1 : Own w5 (T + 1) 5 .u8 kl key v1 := ho1.congr (fun j _ => by unfold app; rw [if_neg (by omega), Nat.sub_zero])
      obtain ⟨v2, w6, hr2, ho2, hg2, _⟩ := run_append_zeros (P := Tryd.prog) (ty := 22) (u := 3) Tryd.underlying22 Tryd.underlying3 one8 ho1 N (by omega) (by unfold maxLen; omega) (by omega) K2.size
      have K3 := K2.grown hg2 (fun b hb => (World.ownsRow.lt ho1 b hb).1)
      refine actH (i := 6) (some 44) rfl v2 (by kernel_rfl) rfl rfl (appendOp2 _ _ 22 3 _ _ _ rfl rfl rfl hr2) K3 ?_
      simp only [Act.put, List.setIfInBounds_toArray, List.set_cons_zero, List.set_cons_succ]
      clear K K1 K2 hr1 hr2 ho0 ho1 hg1 hg2
      rename Kr w (T + 1) [(T, .u8, 32, bmac kl key len z)] [] w6 => K
      obtain ⟨qk, ck, rfl, hqk, sk⟩ := ho2.bytes
      refine callH (i := 8) (some 46) rfl (by kernel_rfl) rfl rfl (fun _ => by kernel_rfl) (hM qk (kl + N) ck (by omega) hqk ho2.nilCap (app key kl (fun _ => 0)) (app_in kl N _ _ hik (znone_in N)) sp len cap (by omega) hcb hnb z hib _ (hg.below K.below hg.size) sk (hsb.below K.below (Nat.le_refl _))) ?_
      rintro e w7 ⟨rfl, l⟩
      replace K := K.call l
      clear l
      refine ⟨_, rfl, K, ?_⟩
      simp only [Act.put, List.setIfInBounds_toArray, List.set_cons_zero, List.set_cons_succ]
      refine pureH (i := 10) (some 48) rfl (.bool true) rfl rfl (fun w => eqlV 32 (bmac (kl + N) (app key kl (fun _ => 0)) len z) (bmac kl key len z) 29 5 _ _ _ rfl rfl rfl Tryd.underlying29 Tryd.underlying5 (fun _ => by kernel_rfl) (by kernel_rfl) (bhash_in _ _ _) (bhash_in _ _ _) true (decide_eq_true (by rw [bmac_pad kl N key (by omega)])) w) (by kernel_rfl) (by kernel_rfl) (by kernel_rfl) (fun _ _ _ h => h) K ?_
      simp only [Act.put, List.setIfInBounds_toArray, List.set_cons_zero, List.set_cons_succ]
      refine pureH (i := 11) (some 49) rfl (.bool true) rfl rfl (fun _ => by kernel_rfl) (by kernel_rfl) (by kernel_rfl) (by kernel_rfl) (fun _ _ _ h => h) K ?_
      simp only [Act.put, List.setIfInBounds_toArray, List.set_cons_zero, List.set_cons_succ]
      refine pureH (i := 12) (some 6) rfl (.bool true) rfl rfl (fun _ => by kernel_rfl) (by kernel_rfl) (by kernel_rfl) (by kernel_rfl) (fun _ _ _ h => h) K ?_
      simp only [Act.put, List.setIfInBounds_toArray, List.set_cons_zero, List.set_cons_succ]
      refine wpAnyH_done (by kernel_rfl) ?_ _
      have hB := K.below
      clear K
      go_wp2
      go_ret
      exact ⟨rfl, hB⟩
end Go.Proofs.YtmchfdfmcobenaaDoor
