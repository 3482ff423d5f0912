/- The walk of BlakeParts. -/
import Derived.Test.YtmchfdfmcobenaaDoorBw
import Derived.Test.YtmchfdfmcobenaaDoorBv
import Derived.Test.YtmchfdfmcobenaaDoorEr
namespace Go.Proofs.YtmchfdfmcobenaaDoor
open Go.RowKit

set_option maxRecDepth 10000 in
set_option maxHeartbeats 8000000 in
theorem law_BlakeParts (hS : BSumOK) (hH : BHashOK) (_hM : BMacOK) (sp : Option Addr) (len cap : Nat) (hlb : len ≤ 140737488351232) (hcb : len ≤ cap) (hnb : sp = none → cap = 0) (z : Nat → Int) (hib : In 256 len z) (size : Int) (hsz : -9223372036854775808 ≤ size ∧ size < 9223372036854775808) (w : World) (hg : BGlob w) (hsb : Src w sp len z) :
    Calls Tryd.prog 7 #[.slice sp len cap, .int .i64 size] w fun e w' => e = .returned (.bool true) ∧ Below w.heap.size w w' := by
  have K := Kr.init w
  go_enter Tryd.func7, Tryd.ntmps7
  go_upto_region 1 with fail
  refine wp_region_list ?_
  refine callL rfl (fun _ => by kernel_rfl) (bshown_any hS hH _ (hg.below K.below hg.size)) ?_
  rintro e w1 ⟨rfl, l⟩
  replace K := K.call l
  clear l
  refine ⟨_, rfl, ?_⟩
  simp only [Act.put, List.setIfInBounds_toArray, List.set_cons_zero, List.set_cons_succ]
  refine pureL (.bool true) rfl (fun _ => by kernel_rfl) ?_
  simp only [Act.put, List.setIfInBounds_toArray, List.set_cons_zero, List.set_cons_succ]
  show Exit.then _ _ _ _ _
  go_upto_region 2 with fail
  refine wp_region_list ?_
  refine pureL (.slice sp len cap) rfl (fun _ => by kernel_rfl) ?_
  simp only [Act.put, List.setIfInBounds_toArray, List.set_cons_zero, List.set_cons_succ]
  refine callL rfl (fun _ => by kernel_rfl) (hS none 0 0 (by decide) (by decide) (fun _ => rfl) (fun _ => 0) (znone_in 0) 32 (by decide) sp len cap (by omega) hcb hnb z hib _ (hg.below K.below hg.size) (znone_src _ _) (hsb.below K.below (Nat.le_refl _))) ?_
  rintro e w2 ⟨s1, c1, rfl, h1, l⟩
  replace K := K.call l
  clear l
  refine ⟨_, rfl, ?_⟩
  simp only [Act.put, List.setIfInBounds_toArray, List.set_cons_zero, List.set_cons_succ]
  replace h1 : Src w2 s1 32 (bhash len z) := h1
  refine pureL (.tuple #[.slice s1 32 c1, .int .i64 0]) rfl (fun _ => by kernel_rfl) ?_
  simp only [Act.put, List.setIfInBounds_toArray, List.set_cons_zero, List.set_cons_succ]
  refine pureL (.slice s1 32 c1) rfl (fun _ => by kernel_rfl) ?_
  simp only [Act.put, List.setIfInBounds_toArray, List.set_cons_zero, List.set_cons_succ]
  refine pureL (.int .i64 0) rfl (fun _ => by kernel_rfl) ?_
  simp only [Act.put, List.setIfInBounds_toArray, List.set_cons_zero, List.set_cons_succ]
  refine pureL (.slice s1 32 c1) rfl (fun _ => by kernel_rfl) ?_
  simp only [Act.put, List.setIfInBounds_toArray, List.set_cons_zero, List.set_cons_succ]
  refine pureL (.int .i64 0) rfl (fun _ => by kernel_rfl) ?_
  simp only [Act.put, List.setIfInBounds_toArray, List.set_cons_zero, List.set_cons_succ]
  show Exit.then _ _ _ _ _
  go_upto_region 3 with fail
  refine wp_region_list ?_
  refine pureL (.slice sp len cap) rfl (fun _ => by kernel_rfl) ?_
  simp only [Act.put, List.setIfInBounds_toArray, List.set_cons_zero, List.set_cons_succ]
  refine callL rfl (fun _ => by kernel_rfl) (hH sp len cap (by omega) hcb hnb z hib _ (hg.below K.below hg.size) (hsb.below K.below (Nat.le_refl _))) ?_
  rintro e w3 ⟨rfl, l⟩
  replace K := K.call l
  replace h1 := h1.below l (Nat.le_refl _)
  clear l
  refine ⟨_, rfl, ?_⟩
  simp only [Act.put, List.setIfInBounds_toArray, List.set_cons_zero, List.set_cons_succ]
  refine allocL #[.int .u8 0, .int .u8 0, .int .u8 0, .int .u8 0, .int .u8 0, .int .u8 0, .int .u8 0, .int .u8 0, .int .u8 0, .int .u8 0, .int .u8 0, .int .u8 0, .int .u8 0, .int .u8 0, .int .u8 0, .int .u8 0, .int .u8 0, .int .u8 0, .int .u8 0, .int .u8 0, .int .u8 0, .int .u8 0, .int .u8 0, .int .u8 0, .int .u8 0, .int .u8 0, .int .u8 0, .int .u8 0, .int .u8 0, .int .u8 0, .int .u8 0, .int .u8 0] 29 rfl (fun _ => by kernel_rfl) ?_
  simp only [Act.put, List.setIfInBounds_toArray, List.set_cons_zero, List.set_cons_succ]
  refine storesL .u8 32 (bhash len z) w3.heap.size 29 _ _ rfl rfl rfl rfl (room_of (key_zero _ _ _ rfl).there) (key_info' _) ?_
  simp only [Act.put]
  have zT := K.size
  have hbl : Below w3.heap.size w3 ((w3.alloc (.cells #[.int .u8 0, .int .u8 0, .int .u8 0, .int .u8 0, .int .u8 0, .int .u8 0, .int .u8 0, .int .u8 0, .int .u8 0, .int .u8 0, .int .u8 0, .int .u8 0, .int .u8 0, .int .u8 0, .int .u8 0, .int .u8 0, .int .u8 0, .int .u8 0, .int .u8 0, .int .u8 0, .int .u8 0, .int .u8 0, .int .u8 0, .int .u8 0, .int .u8 0, .int .u8 0, .int .u8 0, .int .u8 0, .int .u8 0, .int .u8 0, .int .u8 0, .int .u8 0] 29)).setCells w3.heap.size 0 (row .u8 32 (bhash len z))) := below_setAll ((Below.refl w3.heap.size w3).alloc (Nat.le_refl _) _) _ (Nat.le_refl _) 0 _
  replace h1 := h1.below hbl (Nat.le_refl _)
  replace K := K.fresh .u8 32 (bhash len z) #[.int .u8 0, .int .u8 0, .int .u8 0, .int .u8 0, .int .u8 0, .int .u8 0, .int .u8 0, .int .u8 0, .int .u8 0, .int .u8 0, .int .u8 0, .int .u8 0, .int .u8 0, .int .u8 0, .int .u8 0, .int .u8 0, .int .u8 0, .int .u8 0, .int .u8 0, .int .u8 0, .int .u8 0, .int .u8 0, .int .u8 0, .int .u8 0, .int .u8 0, .int .u8 0, .int .u8 0, .int .u8 0, .int .u8 0, .int .u8 0, .int .u8 0, .int .u8 0] 29 (key_zero _ _ _ rfl).there
  clear hbl
  generalize ((w3.alloc (.cells #[.int .u8 0, .int .u8 0, .int .u8 0, .int .u8 0, .int .u8 0, .int .u8 0, .int .u8 0, .int .u8 0, .int .u8 0, .int .u8 0, .int .u8 0, .int .u8 0, .int .u8 0, .int .u8 0, .int .u8 0, .int .u8 0, .int .u8 0, .int .u8 0, .int .u8 0, .int .u8 0, .int .u8 0, .int .u8 0, .int .u8 0, .int .u8 0, .int .u8 0, .int .u8 0, .int .u8 0, .int .u8 0, .int .u8 0, .int .u8 0, .int .u8 0, .int .u8 0] 29)).setCells w3.heap.size 0 (row .u8 32 (bhash len z))) = w4 at K h1 ⊢
  generalize w3.heap.size = T at *
  show Exit.then _ _ _ _ _
  by_cases hs0 : size < 0
  · obtain ⟨s, hse⟩ := Int.eq_ofNat_of_zero_le (show 0 ≤ -(size + 1) by omega)
    go_upto_region 5 with fail
    refine wp_region_list ?_
    refine pureL (.int .i64 size) rfl (fun _ => by kernel_rfl) ?_
    simp only [Act.put, List.setIfInBounds_toArray, List.set_cons_zero, List.set_cons_succ]
    refine pureL (.int .i64 (size + 1)) rfl (fun w => addI .i64 _ _ _ _ _ _ _ rfl rfl rfl (by rw [IntKind.wrap_i64]; omega) w) ?_
    simp only [Act.put, List.setIfInBounds_toArray, List.set_cons_zero, List.set_cons_succ]
    refine pureL (.int .i64 ((s : Nat) : Int)) rfl (fun w => negI .i64 _ _ _ _ rfl rfl (by rw [IntKind.wrap_i64]; omega) w) ?_
    simp only [Act.put, List.setIfInBounds_toArray, List.set_cons_zero, List.set_cons_succ]
    refine pureL (.int .i64 ((s : Nat) : Int)) rfl (fun _ => by kernel_rfl) ?_
    simp only [Act.put, List.setIfInBounds_toArray, List.set_cons_zero, List.set_cons_succ]
    show Exit.then _ _ _ _ _
    have eL : bL 0 (((1 + s % 32) : Nat) : Int) = (1 + s % 32) := by unfold bL; rw [if_neg (by omega), Int.toNat_natCast]
    have eE : bE 0 (((1 + s % 32) : Nat) : Int) = 0 := by unfold bE; rw [if_neg (by omega)]
    go_upto_region 6 with fail
    refine wp_region_list ?_
    refine pureL (.int .i64 ((s : Nat) : Int)) rfl (fun _ => by kernel_rfl) ?_
    simp only [Act.put, List.setIfInBounds_toArray, List.set_cons_zero, List.set_cons_succ]
    refine pureL (.int .i64 ((s % 32 : Nat) : Int)) rfl (fun w => remI .i64 _ _ _ _ _ _ _ rfl rfl rfl (by decide) (by rw [Int.tmod_eq_emod_of_nonneg (by omega)]; omega) w) ?_
    simp only [Act.put, List.setIfInBounds_toArray, List.set_cons_zero, List.set_cons_succ]
    refine pureL (.int .i64 (((1 + s % 32) : Nat) : Int)) rfl (fun w => addI .i64 _ _ _ _ _ _ _ rfl rfl rfl (by rw [IntKind.wrap_i64]; omega) w) ?_
    simp only [Act.put, List.setIfInBounds_toArray, List.set_cons_zero, List.set_cons_succ]
    refine pureL (.slice sp len cap) rfl (fun _ => by kernel_rfl) ?_
    simp only [Act.put, List.setIfInBounds_toArray, List.set_cons_zero, List.set_cons_succ]
    refine callL rfl (fun _ => by kernel_rfl) (hS none 0 0 (by decide) (by decide) (fun _ => rfl) (fun _ => 0) (znone_in 0) (((1 + s % 32) : Nat) : Int) (by omega) sp len cap (by omega) hcb hnb z hib _ (hg.below K.below hg.size) (znone_src _ _) (hsb.below K.below (Nat.le_refl _))) ?_
    rintro e w5 ⟨s2, c2, rfl, _, l⟩
    replace K := K.call l
    replace h1 := h1.below l (Nat.le_refl _)
    clear l
    rw [eL, eE]
    clear eL eE
    refine ⟨_, rfl, ?_⟩
    simp only [Act.put, List.setIfInBounds_toArray, List.set_cons_zero, List.set_cons_succ]
    refine pureL (.tuple #[.slice s2 (1 + s % 32) c2, .int .i64 0]) rfl (fun _ => by kernel_rfl) ?_
    simp only [Act.put, List.setIfInBounds_toArray, List.set_cons_zero, List.set_cons_succ]
    refine pureL (.slice s2 (1 + s % 32) c2) rfl (fun _ => by kernel_rfl) ?_
    simp only [Act.put, List.setIfInBounds_toArray, List.set_cons_zero, List.set_cons_succ]
    refine pureL (.int .i64 0) rfl (fun _ => by kernel_rfl) ?_
    simp only [Act.put, List.setIfInBounds_toArray, List.set_cons_zero, List.set_cons_succ]
    refine pureL (.slice s2 (1 + s % 32) c2) rfl (fun _ => by kernel_rfl) ?_
    simp only [Act.put, List.setIfInBounds_toArray, List.set_cons_zero, List.set_cons_succ]
    refine pureL (.int .i64 0) rfl (fun _ => by kernel_rfl) ?_
    simp only [Act.put, List.setIfInBounds_toArray, List.set_cons_zero, List.set_cons_succ]
    show Exit.then _ _ _ _ _
    replace K : KB w (T + 1) [(T, .u8, 32, bhash len z)] [] s1 32 (bhash len z) w5 := ⟨K, h1⟩
    clear h1
    go_upto_region 7 with fail
    refine wp_region_held_drew (S := fun w' => KB w (T + 1) [(T, .u8, 32, bhash len z)] [] s1 32 (bhash len z) w') (by kernel_rfl) K.drew ?_
    clear K
    intro K
    refine pureH (i := 0) (some 32) rfl (.bool true) rfl rfl (fun _ => by kernel_rfl) (by kernel_rfl) (by kernel_rfl) (by kernel_rfl) (fun _ _ _ h => h) K ?_
    simp only [Act.put, List.setIfInBounds_toArray, List.set_cons_zero, List.set_cons_succ]
    refine pureH (i := 1) (some 33) rfl (.bool true) rfl rfl (fun _ => by kernel_rfl) (by kernel_rfl) (by kernel_rfl) (by kernel_rfl) (fun _ _ _ h => h) K ?_
    simp only [Act.put, List.setIfInBounds_toArray, List.set_cons_zero, List.set_cons_succ]
    refine pureH (i := 2) (some 34) rfl (.int .i64 0) rfl rfl (fun _ => by kernel_rfl) (by kernel_rfl) (by kernel_rfl) (by kernel_rfl) (fun _ _ _ h => h) K ?_
    simp only [Act.put, List.setIfInBounds_toArray, List.set_cons_zero, List.set_cons_succ]
    refine pureH (i := 3) (some 35) rfl (.bool true) rfl rfl (fun w => eqlI .i64 0 0 _ _ _ _ rfl rfl rfl true (by decide) w) (by kernel_rfl) (by kernel_rfl) (by kernel_rfl) (fun _ _ _ h => h) K ?_
    simp only [Act.put, List.setIfInBounds_toArray, List.set_cons_zero, List.set_cons_succ]
    refine pureH (i := 4) (some 36) rfl (.bool true) rfl rfl (fun _ => by kernel_rfl) (by kernel_rfl) (by kernel_rfl) (by kernel_rfl) (fun _ _ _ h => h) K ?_
    simp only [Act.put, List.setIfInBounds_toArray, List.set_cons_zero, List.set_cons_succ]
    refine pureH (i := 5) (some 37) rfl (.bool true) rfl rfl (fun _ => by kernel_rfl) (by kernel_rfl) (by kernel_rfl) (by kernel_rfl) (fun _ _ _ h => h) K ?_
    simp only [Act.put, List.setIfInBounds_toArray, List.set_cons_zero, List.set_cons_succ]
    refine pureH (i := 6) (some 38) rfl (.slice s1 32 c1) rfl rfl (fun _ => by kernel_rfl) (by kernel_rfl) (by kernel_rfl) (by kernel_rfl) (fun _ _ _ h => h) K ?_
    simp only [Act.put, List.setIfInBounds_toArray, List.set_cons_zero, List.set_cons_succ]
    refine readH (i := 7) (some 39) rfl (.string (txt 32 (bhash len z))) rfl rfl (fun w' h => conv_txt 22 5 9 _ rfl Tryd.underlying22 Tryd.underlying5 Tryd.underlying9 (s1) 32 (c1) (bhash len z) rfl w' (h.src) (Src.none (h.src))) (by kernel_rfl) (by kernel_rfl) (by kernel_rfl) (fun _ _ _ h => h) K ?_
    simp only [Act.put, List.setIfInBounds_toArray, List.set_cons_zero, List.set_cons_succ]
    refine pureH (i := 8) (some 40) rfl (.slice (some ⟨T, 0, none⟩) 32 32) rfl rfl (fun _ => by kernel_rfl) (by kernel_rfl) (by kernel_rfl) (by kernel_rfl) (fun _ _ _ h => h) K ?_
    simp only [Act.put, List.setIfInBounds_toArray, List.set_cons_zero, List.set_cons_succ]
    refine readH (i := 9) (some 41) rfl (.string (txt 32 (bhash len z))) rfl rfl (fun w' h => conv_txt 22 5 9 _ rfl Tryd.underlying22 Tryd.underlying5 Tryd.underlying9 (some ⟨T, 0, none⟩) 32 (32) (bhash len z) rfl w' ((h.kr.get _ _ _ _ List.mem_cons_self).src0) (Src.none ((h.kr.get _ _ _ _ List.mem_cons_self).src0))) (by kernel_rfl) (by kernel_rfl) (by kernel_rfl) (fun _ _ _ h => h) K ?_
    simp only [Act.put, List.setIfInBounds_toArray, List.set_cons_zero, List.set_cons_succ]
    refine pureH (i := 10) (some 42) rfl (.bool true) rfl rfl (fun w => eqlS _ _ _ _ _ _ rfl rfl rfl rfl w) (by kernel_rfl) (by kernel_rfl) (by kernel_rfl) (fun _ _ _ h => h) K ?_
    simp only [Act.put, List.setIfInBounds_toArray, List.set_cons_zero, List.set_cons_succ]
    refine pureH (i := 11) (some 43) rfl (.bool true) rfl rfl (fun _ => by kernel_rfl) (by kernel_rfl) (by kernel_rfl) (by kernel_rfl) (fun _ _ _ h => h) K ?_
    simp only [Act.put, List.setIfInBounds_toArray, List.set_cons_zero, List.set_cons_succ]
    refine pureH (i := 12) (some 44) rfl (.bool true) rfl rfl (fun _ => by kernel_rfl) (by kernel_rfl) (by kernel_rfl) (by kernel_rfl) (fun _ _ _ h => h) K ?_
    simp only [Act.put, List.setIfInBounds_toArray, List.set_cons_zero, List.set_cons_succ]
    refine pureH (i := 13) (some 45) rfl (.int .i64 0) rfl rfl (fun _ => by kernel_rfl) (by kernel_rfl) (by kernel_rfl) (by kernel_rfl) (fun _ _ _ h => h) K ?_
    simp only [Act.put, List.setIfInBounds_toArray, List.set_cons_zero, List.set_cons_succ]
    refine pureH (i := 14) (some 46) rfl (.bool true) rfl rfl (fun w => eqlI .i64 0 0 _ _ _ _ rfl rfl rfl true (by decide) w) (by kernel_rfl) (by kernel_rfl) (by kernel_rfl) (fun _ _ _ h => h) K ?_
    simp only [Act.put, List.setIfInBounds_toArray, List.set_cons_zero, List.set_cons_succ]
    refine pureH (i := 15) (some 47) rfl (.bool true) rfl rfl (fun _ => by kernel_rfl) (by kernel_rfl) (by kernel_rfl) (by kernel_rfl) (fun _ _ _ h => h) K ?_
    simp only [Act.put, List.setIfInBounds_toArray, List.set_cons_zero, List.set_cons_succ]
    refine pureH (i := 16) (some 48) rfl (.bool true) rfl rfl (fun _ => by kernel_rfl) (by kernel_rfl) (by kernel_rfl) (by kernel_rfl) (fun _ _ _ h => h) K ?_
    simp only [Act.put, List.setIfInBounds_toArray, List.set_cons_zero, List.set_cons_succ]
    refine pureH (i := 17) (some 49) rfl (.slice s2 (1 + s % 32) c2) rfl rfl (fun _ => by kernel_rfl) (by kernel_rfl) (by kernel_rfl) (by kernel_rfl) (fun _ _ _ h => h) K ?_
    simp only [Act.put, List.setIfInBounds_toArray, List.set_cons_zero, List.set_cons_succ]
    refine pureH (i := 19) (some 51) rfl (.int .i64 ((s : Nat) : Int)) rfl rfl (fun _ => by kernel_rfl) (by kernel_rfl) (by kernel_rfl) (by kernel_rfl) (fun _ _ _ h => h) K ?_
    simp only [Act.put, List.setIfInBounds_toArray, List.set_cons_zero, List.set_cons_succ]
    refine pureH (i := 20) (some 52) rfl (.int .i64 ((s % 32 : Nat) : Int)) rfl rfl (fun w => remI .i64 _ _ _ _ _ _ _ rfl rfl rfl (by decide) (by rw [Int.tmod_eq_emod_of_nonneg (by omega)]; omega) w) (by kernel_rfl) (by kernel_rfl) (by kernel_rfl) (fun _ _ _ h => h) K ?_
    simp only [Act.put, List.setIfInBounds_toArray, List.set_cons_zero, List.set_cons_succ]
    refine pureH (i := 21) (some 53) rfl (.int .i64 (((1 + s % 32) : Nat) : Int)) rfl rfl (fun w => addI .i64 _ _ _ _ _ _ _ rfl rfl rfl (by rw [IntKind.wrap_i64]; omega) w) (by kernel_rfl) (by kernel_rfl) (by kernel_rfl) (fun _ _ _ h => h) K ?_
    simp only [Act.put, List.setIfInBounds_toArray, List.set_cons_zero, List.set_cons_succ]
    refine pureH (i := 18) (some 50) rfl (.int .i64 (((1 + s % 32) : Nat) : Int)) rfl rfl (fun w => lenS _ 22 5 s2 (1 + s % 32) c2 rfl Tryd.underlying22 rfl w) (by kernel_rfl) (by kernel_rfl) (by kernel_rfl) (fun _ _ _ h => h) K ?_
    simp only [Act.put, List.setIfInBounds_toArray, List.set_cons_zero, List.set_cons_succ]
    refine pureH (i := 22) (some 54) rfl (.bool true) rfl rfl (fun w => eqlI .i64 _ _ _ _ _ _ rfl rfl rfl true (beq_self_eq_true _) w) (by kernel_rfl) (by kernel_rfl) (by kernel_rfl) (fun _ _ _ h => h) K ?_
    simp only [Act.put, List.setIfInBounds_toArray, List.set_cons_zero, List.set_cons_succ]
    refine pureH (i := 23) (some 55) rfl (.bool true) rfl rfl (fun _ => by kernel_rfl) (by kernel_rfl) (by kernel_rfl) (by kernel_rfl) (fun _ _ _ h => h) K ?_
    simp only [Act.put, List.setIfInBounds_toArray, List.set_cons_zero, List.set_cons_succ]
    refine pureH (i := 24) (some 4) rfl (.bool true) rfl rfl (fun _ => by kernel_rfl) (by kernel_rfl) (by kernel_rfl) (by kernel_rfl) (fun _ _ _ h => h) K ?_
    simp only [Act.put, List.setIfInBounds_toArray, List.set_cons_zero, List.set_cons_succ]
    refine wpAnyH_done (by kernel_rfl) ?_ _
    have hB := K.kr.below
    clear K
    go_wp2
    go_ret
    exact ⟨rfl, hB⟩
  · obtain ⟨s, rfl⟩ := Int.eq_ofNat_of_zero_le (show 0 ≤ size by omega)
    have eL : bL 0 (((1 + s % 32) : Nat) : Int) = (1 + s % 32) := by unfold bL; rw [if_neg (by omega), Int.toNat_natCast]
    have eE : bE 0 (((1 + s % 32) : Nat) : Int) = 0 := by unfold bE; rw [if_neg (by omega)]
    go_upto_region 6 with fail
    refine wp_region_list ?_
    refine pureL (.int .i64 ((s : Nat) : Int)) rfl (fun _ => by kernel_rfl) ?_
    simp only [Act.put, List.setIfInBounds_toArray, List.set_cons_zero, List.set_cons_succ]
    refine pureL (.int .i64 ((s % 32 : Nat) : Int)) rfl (fun w => remI .i64 _ _ _ _ _ _ _ rfl rfl rfl (by decide) (by rw [Int.tmod_eq_emod_of_nonneg (by omega)]; omega) w) ?_
    simp only [Act.put, List.setIfInBounds_toArray, List.set_cons_zero, List.set_cons_succ]
    refine pureL (.int .i64 (((1 + s % 32) : Nat) : Int)) rfl (fun w => addI .i64 _ _ _ _ _ _ _ rfl rfl rfl (by rw [IntKind.wrap_i64]; omega) w) ?_
    simp only [Act.put, List.setIfInBounds_toArray, List.set_cons_zero, List.set_cons_succ]
    refine pureL (.slice sp len cap) rfl (fun _ => by kernel_rfl) ?_
    simp only [Act.put, List.setIfInBounds_toArray, List.set_cons_zero, List.set_cons_succ]
    refine callL rfl (fun _ => by kernel_rfl) (hS none 0 0 (by decide) (by decide) (fun _ => rfl) (fun _ => 0) (znone_in 0) (((1 + s % 32) : Nat) : Int) (by omega) sp len cap (by omega) hcb hnb z hib _ (hg.below K.below hg.size) (znone_src _ _) (hsb.below K.below (Nat.le_refl _))) ?_
    rintro e w5 ⟨s2, c2, rfl, _, l⟩
    replace K := K.call l
    replace h1 := h1.below l (Nat.le_refl _)
    clear l
    rw [eL, eE]
    clear eL eE
    refine ⟨_, rfl, ?_⟩
    simp only [Act.put, List.setIfInBounds_toArray, List.set_cons_zero, List.set_cons_succ]
    refine pureL (.tuple #[.slice s2 (1 + s % 32) c2, .int .i64 0]) rfl (fun _ => by kernel_rfl) ?_
    simp only [Act.put, List.setIfInBounds_toArray, List.set_cons_zero, List.set_cons_succ]
    refine pureL (.slice s2 (1 + s % 32) c2) rfl (fun _ => by kernel_rfl) ?_
    simp only [Act.put, List.setIfInBounds_toArray, List.set_cons_zero, List.set_cons_succ]
    refine pureL (.int .i64 0) rfl (fun _ => by kernel_rfl) ?_
    simp only [Act.put, List.setIfInBounds_toArray, List.set_cons_zero, List.set_cons_succ]
    refine pureL (.slice s2 (1 + s % 32) c2) rfl (fun _ => by kernel_rfl) ?_
    simp only [Act.put, List.setIfInBounds_toArray, List.set_cons_zero, List.set_cons_succ]
    refine pureL (.int .i64 0) rfl (fun _ => by kernel_rfl) ?_
    simp only [Act.put, List.setIfInBounds_toArray, List.set_cons_zero, List.set_cons_succ]
    show Exit.then _ _ _ _ _
    replace K : KB w (T + 1) [(T, .u8, 32, bhash len z)] [] s1 32 (bhash len z) w5 := ⟨K, h1⟩
    clear h1
    go_upto_region 7 with fail
    refine wp_region_held_drew (S := fun w' => KB w (T + 1) [(T, .u8, 32, bhash len z)] [] s1 32 (bhash len z) w') (by kernel_rfl) K.drew ?_
    clear K
    intro K
    refine pureH (i := 0) (some 32) rfl (.bool true) rfl rfl (fun _ => by kernel_rfl) (by kernel_rfl) (by kernel_rfl) (by kernel_rfl) (fun _ _ _ h => h) K ?_
    simp only [Act.put, List.setIfInBounds_toArray, List.set_cons_zero, List.set_cons_succ]
    refine pureH (i := 1) (some 33) rfl (.bool true) rfl rfl (fun _ => by kernel_rfl) (by kernel_rfl) (by kernel_rfl) (by kernel_rfl) (fun _ _ _ h => h) K ?_
    simp only [Act.put, List.setIfInBounds_toArray, List.set_cons_zero, List.set_cons_succ]
    refine pureH (i := 2) (some 34) rfl (.int .i64 0) rfl rfl (fun _ => by kernel_rfl) (by kernel_rfl) (by kernel_rfl) (by kernel_rfl) (fun _ _ _ h => h) K ?_
    simp only [Act.put, List.setIfInBounds_toArray, List.set_cons_zero, List.set_cons_succ]
    refine pureH (i := 3) (some 35) rfl (.bool true) rfl rfl (fun w => eqlI .i64 0 0 _ _ _ _ rfl rfl rfl true (by decide) w) (by kernel_rfl) (by kernel_rfl) (by kernel_rfl) (fun _ _ _ h => h) K ?_
    simp only [Act.put, List.setIfInBounds_toArray, List.set_cons_zero, List.set_cons_succ]
    refine pureH (i := 4) (some 36) rfl (.bool true) rfl rfl (fun _ => by kernel_rfl) (by kernel_rfl) (by kernel_rfl) (by kernel_rfl) (fun _ _ _ h => h) K ?_
    simp only [Act.put, List.setIfInBounds_toArray, List.set_cons_zero, List.set_cons_succ]
    refine pureH (i := 5) (some 37) rfl (.bool true) rfl rfl (fun _ => by kernel_rfl) (by kernel_rfl) (by kernel_rfl) (by kernel_rfl) (fun _ _ _ h => h) K ?_
    simp only [Act.put, List.setIfInBounds_toArray, List.set_cons_zero, List.set_cons_succ]
    refine pureH (i := 6) (some 38) rfl (.slice s1 32 c1) rfl rfl (fun _ => by kernel_rfl) (by kernel_rfl) (by kernel_rfl) (by kernel_rfl) (fun _ _ _ h => h) K ?_
    simp only [Act.put, List.setIfInBounds_toArray, List.set_cons_zero, List.set_cons_succ]
    refine readH (i := 7) (some 39) rfl (.string (txt 32 (bhash len z))) rfl rfl (fun w' h => conv_txt 22 5 9 _ rfl Tryd.underlying22 Tryd.underlying5 Tryd.underlying9 (s1) 32 (c1) (bhash len z) rfl w' (h.src) (Src.none (h.src))) (by kernel_rfl) (by kernel_rfl) (by kernel_rfl) (fun _ _ _ h => h) K ?_
    simp only [Act.put, List.setIfInBounds_toArray, List.set_cons_zero, List.set_cons_succ]
    refine pureH (i := 8) (some 40) rfl (.slice (some ⟨T, 0, none⟩) 32 32) rfl rfl (fun _ => by kernel_rfl) (by kernel_rfl) (by kernel_rfl) (by kernel_rfl) (fun _ _ _ h => h) K ?_
    simp only [Act.put, List.setIfInBounds_toArray, List.set_cons_zero, List.set_cons_succ]
    refine readH (i := 9) (some 41) rfl (.string (txt 32 (bhash len z))) rfl rfl (fun w' h => conv_txt 22 5 9 _ rfl Tryd.underlying22 Tryd.underlying5 Tryd.underlying9 (some ⟨T, 0, none⟩) 32 (32) (bhash len z) rfl w' ((h.kr.get _ _ _ _ List.mem_cons_self).src0) (Src.none ((h.kr.get _ _ _ _ List.mem_cons_self).src0))) (by kernel_rfl) (by kernel_rfl) (by kernel_rfl) (fun _ _ _ h => h) K ?_
    simp only [Act.put, List.setIfInBounds_toArray, List.set_cons_zero, List.set_cons_succ]
    refine pureH (i := 10) (some 42) rfl (.bool true) rfl rfl (fun w => eqlS _ _ _ _ _ _ rfl rfl rfl rfl w) (by kernel_rfl) (by kernel_rfl) (by kernel_rfl) (fun _ _ _ h => h) K ?_
    simp only [Act.put, List.setIfInBounds_toArray, List.set_cons_zero, List.set_cons_succ]
    refine pureH (i := 11) (some 43) rfl (.bool true) rfl rfl (fun _ => by kernel_rfl) (by kernel_rfl) (by kernel_rfl) (by kernel_rfl) (fun _ _ _ h => h) K ?_
    simp only [Act.put, List.setIfInBounds_toArray, List.set_cons_zero, List.set_cons_succ]
    refine pureH (i := 12) (some 44) rfl (.bool true) rfl rfl (fun _ => by kernel_rfl) (by kernel_rfl) (by kernel_rfl) (by kernel_rfl) (fun _ _ _ h => h) K ?_
    simp only [Act.put, List.setIfInBounds_toArray, List.set_cons_zero, List.set_cons_succ]
    refine pureH (i := 13) (some 45) rfl (.int .i64 0) rfl rfl (fun _ => by kernel_rfl) (by kernel_rfl) (by kernel_rfl) (by kernel_rfl) (fun _ _ _ h => h) K ?_
    simp only [Act.put, List.setIfInBounds_toArray, List.set_cons_zero, List.set_cons_succ]
    refine pureH (i := 14) (some 46) rfl (.bool true) rfl rfl (fun w => eqlI .i64 0 0 _ _ _ _ rfl rfl rfl true (by decide) w) (by kernel_rfl) (by kernel_rfl) (by kernel_rfl) (fun _ _ _ h => h) K ?_
    simp only [Act.put, List.setIfInBounds_toArray, List.set_cons_zero, List.set_cons_succ]
    refine pureH (i := 15) (some 47) rfl (.bool true) rfl rfl (fun _ => by kernel_rfl) (by kernel_rfl) (by kernel_rfl) (by kernel_rfl) (fun _ _ _ h => h) K ?_
    simp only [Act.put, List.setIfInBounds_toArray, List.set_cons_zero, List.set_cons_succ]
    refine pureH (i := 16) (some 48) rfl (.bool true) rfl rfl (fun _ => by kernel_rfl) (by kernel_rfl) (by kernel_rfl) (by kernel_rfl) (fun _ _ _ h => h) K ?_
    simp only [Act.put, List.setIfInBounds_toArray, List.set_cons_zero, List.set_cons_succ]
    refine pureH (i := 17) (some 49) rfl (.slice s2 (1 + s % 32) c2) rfl rfl (fun _ => by kernel_rfl) (by kernel_rfl) (by kernel_rfl) (by kernel_rfl) (fun _ _ _ h => h) K ?_
    simp only [Act.put, List.setIfInBounds_toArray, List.set_cons_zero, List.set_cons_succ]
    refine pureH (i := 19) (some 51) rfl (.int .i64 ((s : Nat) : Int)) rfl rfl (fun _ => by kernel_rfl) (by kernel_rfl) (by kernel_rfl) (by kernel_rfl) (fun _ _ _ h => h) K ?_
    simp only [Act.put, List.setIfInBounds_toArray, List.set_cons_zero, List.set_cons_succ]
    refine pureH (i := 20) (some 52) rfl (.int .i64 ((s % 32 : Nat) : Int)) rfl rfl (fun w => remI .i64 _ _ _ _ _ _ _ rfl rfl rfl (by decide) (by rw [Int.tmod_eq_emod_of_nonneg (by omega)]; omega) w) (by kernel_rfl) (by kernel_rfl) (by kernel_rfl) (fun _ _ _ h => h) K ?_
    simp only [Act.put, List.setIfInBounds_toArray, List.set_cons_zero, List.set_cons_succ]
    refine pureH (i := 21) (some 53) rfl (.int .i64 (((1 + s % 32) : Nat) : Int)) rfl rfl (fun w => addI .i64 _ _ _ _ _ _ _ rfl rfl rfl (by rw [IntKind.wrap_i64]; omega) w) (by kernel_rfl) (by kernel_rfl) (by kernel_rfl) (fun _ _ _ h => h) K ?_
    simp only [Act.put, List.setIfInBounds_toArray, List.set_cons_zero, List.set_cons_succ]
    refine pureH (i := 18) (some 50) rfl (.int .i64 (((1 + s % 32) : Nat) : Int)) rfl rfl (fun w => lenS _ 22 5 s2 (1 + s % 32) c2 rfl Tryd.underlying22 rfl w) (by kernel_rfl) (by kernel_rfl) (by kernel_rfl) (fun _ _ _ h => h) K ?_
    simp only [Act.put, List.setIfInBounds_toArray, List.set_cons_zero, List.set_cons_succ]
    refine pureH (i := 22) (some 54) rfl (.bool true) rfl rfl (fun w => eqlI .i64 _ _ _ _ _ _ rfl rfl rfl true (beq_self_eq_true _) w) (by kernel_rfl) (by kernel_rfl) (by kernel_rfl) (fun _ _ _ h => h) K ?_
    simp only [Act.put, List.setIfInBounds_toArray, List.set_cons_zero, List.set_cons_succ]
    refine pureH (i := 23) (some 55) rfl (.bool true) rfl rfl (fun _ => by kernel_rfl) (by kernel_rfl) (by kernel_rfl) (by kernel_rfl) (fun _ _ _ h => h) K ?_
    simp only [Act.put, List.setIfInBounds_toArray, List.set_cons_zero, List.set_cons_succ]
    refine pureH (i := 24) (some 4) rfl (.bool true) rfl rfl (fun _ => by kernel_rfl) (by kernel_rfl) (by kernel_rfl) (by kernel_rfl) (fun _ _ _ h => h) K ?_
    simp only [Act.put, List.setIfInBounds_toArray, List.set_cons_zero, List.set_cons_succ]
    refine wpAnyH_done (by kernel_rfl) ?_ _
    have hB := K.kr.below
    clear K
    go_wp2
    go_ret
    exact ⟨rfl, hB⟩
end Go.Proofs.YtmchfdfmcobenaaDoor
