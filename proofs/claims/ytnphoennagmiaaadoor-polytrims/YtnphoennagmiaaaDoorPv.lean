/- The head of all statements of this layer: the document's examples hold. -/
import Derived.Test.YtnphoennagmiaaaDoorPd
import Derived.Test.YtnphoennagmiaaaDoorCv
import Derived.Test.YtnphoennagmiaaaDoorHold
namespace Go.Proofs.YtnphoennagmiaaaDoor
open Go.RowKit

/-- The example's key, its text, its tag; another text. -/
def pkk : Nat → Int := bl [133, 214, 190, 120, 87, 85, 109, 51, 127, 68, 82, 254, 66, 213, 6, 168, 1, 3, 128, 138, 251, 13, 178, 253, 74, 191, 246, 175, 65, 73, 245, 27]
def pzz : Nat → Int := bl [67, 114, 121, 112, 116, 111, 103, 114, 97, 112, 104, 105, 99, 32, 70, 111, 114, 117, 109, 32, 82, 101, 115, 101, 97, 114, 99, 104, 32, 71, 114, 111, 117, 112]
def pww : Nat → Int := bl [168, 6, 29, 193, 48, 81, 54, 198, 194, 43, 139, 175, 12, 1, 39, 169]
def pyy : Nat → Int := bl [97, 110, 121]
def pnn : Nat → Int := fun _ => 0
theorem pkk_in : In 256 32 pkk := bl_in _ _ (by decide)
theorem pzz_in : In 256 34 pzz := bl_in _ _ (by decide)
theorem pww_in : In 256 16 pww := bl_in _ _ (by decide)
theorem pyy_in : In 256 3 pyy := bl_in _ _ (by decide)
theorem pnn_in (n : Nat) : In 256 n pnn := fun _ _ => ⟨Int.le_refl 0, (by decide : (0 : Int) < 256)⟩
theorem ptag_shown : ptag pkk 34 pzz = val 256 pww 16 := by decide +kernel
theorem ptag_noughts : ptag pnn 3 pyy = val 256 pnn 16 := by decide +kernel
theorem other_shown : ¬ val 256 pww 16 = val 256 pnn 16 := by decide +kernel

set_option maxRecDepth 10000 in
set_option maxHeartbeats 8000000 in
theorem pshown_any (hS : SumOK) (hE : SameOK) (w : World) (hg : Glob w) :
    Calls Tryd.prog 8 #[] w fun e w' => e = .returned (.bool true) ∧ Below w.heap.size w w' := by
  have K := Kr.init w
  go_enter Tryd.func8, Tryd.ntmps8
  go_upto_region 1 with fail
  refine wp_region_list ?_
  refine pureL (.agg (row .u8 32 pkk).toArray) rfl (fun _ => by kernel_rfl) ?_
  simp only [Act.put, List.setIfInBounds_toArray, List.set_cons_zero, List.set_cons_succ]
  refine allocL #[.int .u8 0, .int .u8 0, .int .u8 0, .int .u8 0, .int .u8 0, .int .u8 0, .int .u8 0, .int .u8 0, .int .u8 0, .int .u8 0, .int .u8 0, .int .u8 0, .int .u8 0, .int .u8 0, .int .u8 0, .int .u8 0, .int .u8 0, .int .u8 0, .int .u8 0, .int .u8 0, .int .u8 0, .int .u8 0, .int .u8 0, .int .u8 0, .int .u8 0, .int .u8 0, .int .u8 0, .int .u8 0, .int .u8 0, .int .u8 0, .int .u8 0, .int .u8 0] 23 rfl (fun _ => by kernel_rfl) ?_
  simp only [Act.put, List.setIfInBounds_toArray, List.set_cons_zero, List.set_cons_succ]
  refine storesL .u8 32 pkk w.heap.size 23 _ _ rfl rfl rfl rfl (room_of (key_zero _ _ _ rfl).there) (key_info' _) ?_
  simp only [Act.put]
  replace K := K.fresh .u8 32 pkk #[.int .u8 0, .int .u8 0, .int .u8 0, .int .u8 0, .int .u8 0, .int .u8 0, .int .u8 0, .int .u8 0, .int .u8 0, .int .u8 0, .int .u8 0, .int .u8 0, .int .u8 0, .int .u8 0, .int .u8 0, .int .u8 0, .int .u8 0, .int .u8 0, .int .u8 0, .int .u8 0, .int .u8 0, .int .u8 0, .int .u8 0, .int .u8 0, .int .u8 0, .int .u8 0, .int .u8 0, .int .u8 0, .int .u8 0, .int .u8 0, .int .u8 0, .int .u8 0] 23 (key_zero _ _ _ rfl).there
  generalize ((w.alloc (.cells #[.int .u8 0, .int .u8 0, .int .u8 0, .int .u8 0, .int .u8 0, .int .u8 0, .int .u8 0, .int .u8 0, .int .u8 0, .int .u8 0, .int .u8 0, .int .u8 0, .int .u8 0, .int .u8 0, .int .u8 0, .int .u8 0, .int .u8 0, .int .u8 0, .int .u8 0, .int .u8 0, .int .u8 0, .int .u8 0, .int .u8 0, .int .u8 0, .int .u8 0, .int .u8 0, .int .u8 0, .int .u8 0, .int .u8 0, .int .u8 0, .int .u8 0, .int .u8 0] 23)).setCells w.heap.size 0 (row .u8 32 pkk)) = w1 at K ⊢
  show Exit.then _ _ _ _ _
  go_upto_region 2 with fail
  refine wp_region_list ?_
  refine pureL (.agg (row .u8 16 pww).toArray) rfl (fun _ => by kernel_rfl) ?_
  simp only [Act.put, List.setIfInBounds_toArray, List.set_cons_zero, List.set_cons_succ]
  refine allocL #[.int .u8 0, .int .u8 0, .int .u8 0, .int .u8 0, .int .u8 0, .int .u8 0, .int .u8 0, .int .u8 0, .int .u8 0, .int .u8 0, .int .u8 0, .int .u8 0, .int .u8 0, .int .u8 0, .int .u8 0, .int .u8 0] 27 rfl (fun _ => by kernel_rfl) ?_
  simp only [Act.put, List.setIfInBounds_toArray, List.set_cons_zero, List.set_cons_succ]
  refine storesL .u8 16 (pww) w1.heap.size 27 _ _ rfl rfl rfl rfl (room_of (tag_zero _ _ _ rfl).there) (tag_info' _) ?_
  simp only [Act.put]
  have zB := K.size
  replace K := K.fresh .u8 16 (pww) #[.int .u8 0, .int .u8 0, .int .u8 0, .int .u8 0, .int .u8 0, .int .u8 0, .int .u8 0, .int .u8 0, .int .u8 0, .int .u8 0, .int .u8 0, .int .u8 0, .int .u8 0, .int .u8 0, .int .u8 0, .int .u8 0] 27 (tag_zero _ _ _ rfl).there
  generalize ((w1.alloc (.cells #[.int .u8 0, .int .u8 0, .int .u8 0, .int .u8 0, .int .u8 0, .int .u8 0, .int .u8 0, .int .u8 0, .int .u8 0, .int .u8 0, .int .u8 0, .int .u8 0, .int .u8 0, .int .u8 0, .int .u8 0, .int .u8 0] 27)).setCells w1.heap.size 0 (row .u8 16 (pww))) = w2 at K ⊢
  generalize w1.heap.size = B at *
  show Exit.then _ _ _ _ _
  go_upto_region 3 with fail
  refine wp_region_held_drew (S := fun w' => Kr w (B + 1) [(B, .u8, 16, pww), (w.heap.size, .u8, 32, pkk)] [] w') (by kernel_rfl) K.drew ?_
  clear K
  intro K
  generalize w2.drew = w3 at K ⊢
  refine rowKH (i := 0) (some 5) rfl .u8 32 (pkk) (w.heap.size) 0 23 _ _ rfl rfl rfl rfl (by kernel_rfl) (by kernel_rfl) (by kernel_rfl) (fun _ _ _ h => h) Tryd.underlying23 rfl (key_info _) K (fun _ h => (h.get _ _ _ _ (List.mem_cons_of_mem _ List.mem_cons_self)).range) ?_
  simp only [Act.put, List.setIfInBounds_toArray, List.set_cons_zero, List.set_cons_succ]
  refine rowKH (i := 4) (some 9) rfl .u8 16 (pww) (B) 0 27 _ _ rfl rfl rfl rfl (by kernel_rfl) (by kernel_rfl) (by kernel_rfl) (fun _ _ _ h => h) Tryd.underlying27 rfl (tag_info _) K (fun _ h => (h.get _ _ _ _ List.mem_cons_self).range) ?_
  simp only [Act.put, List.setIfInBounds_toArray, List.set_cons_zero, List.set_cons_succ]
  have hb1 := (Below.refl w3.heap.size w3).alloc (Nat.le_refl _) (.cells (row .u8 34 pzz).toArray 5)
  have hb2 := (Below.refl w3.heap.size w3).alloc (Nat.le_refl _) (.cells (row .u8 34 pzz).toArray 5 ((row .u8 34 pzz).toArray.size, (row .u8 34 pzz).toArray.size + 1))
  refine actH (i := 1) (w' := w3.alloc (.cells (row .u8 34 pzz).toArray 5)) (some 6) rfl (.slice (some ⟨w3.heap.size, 0, none⟩) 34 34) (by kernel_rfl) rfl rfl (by kernel_rfl) (K.call hb1) ?_
  simp only [Act.put, List.setIfInBounds_toArray, List.set_cons_zero, List.set_cons_succ]
  refine actH (i := 2) (some 7) rfl (.slice (some ⟨w3.heap.size, 0, none⟩) 34 34) (by kernel_rfl) rfl rfl (conv_const 24 5 (row .u8 34 pzz).toArray 34 34 _ rfl rfl Tryd.underlying24 Tryd.underlying5) (K.call hb2) ?_
  simp only [Act.put, List.setIfInBounds_toArray, List.set_cons_zero, List.set_cons_succ]
  replace K := K.call hb2
  clear hb1 hb2
  have hc := (has_marked w3 .u8 34 pzz 5).src0
  generalize w3.alloc (.cells (row .u8 34 pzz).toArray 5 ((row .u8 34 pzz).toArray.size, (row .u8 34 pzz).toArray.size + 1)) = w4 at K hc ⊢
  generalize w3.heap.size = D at hc ⊢
  refine callH (i := 3) (some 8) rfl (by kernel_rfl) rfl rfl (fun _ => by kernel_rfl) (hS pkk pkk_in (some ⟨D, 0, none⟩) (34) (34) (by decide) (by decide) pzz pzz_in _ (hg.below K.below hg.size) hc) ?_
  rintro e w5 ⟨f1, rfl, s1, l⟩
  replace K := K.call l
  clear l
  refine ⟨_, rfl, K, ?_⟩
  simp only [Act.put, List.setIfInBounds_toArray, List.set_cons_zero, List.set_cons_succ]
  clear hc
  refine pureH (i := 5) (some 10) rfl (.bool true) rfl rfl (fun w => eqlV 16 f1 pww 27 5 _ _ _ rfl rfl rfl Tryd.underlying27 Tryd.underlying5 (fun _ => by kernel_rfl) (by kernel_rfl) s1.1 pww_in true (decide_eq_true (by rw [s1.2]; exact ptag_shown)) w) (by kernel_rfl) (by kernel_rfl) (by kernel_rfl) (fun _ _ _ h => h) K ?_
  simp only [Act.put, List.setIfInBounds_toArray, List.set_cons_zero, List.set_cons_succ]
  refine pureH (i := 6) (some 11) rfl (.bool true) rfl rfl (fun _ => by kernel_rfl) (by kernel_rfl) (by kernel_rfl) (by kernel_rfl) (fun _ _ _ h => h) K ?_
  simp only [Act.put, List.setIfInBounds_toArray, List.set_cons_zero, List.set_cons_succ]
  refine pureH (i := 7) (some 12) rfl (.agg (row .u8 32 pnn).toArray) rfl rfl (fun _ => by kernel_rfl) (by kernel_rfl) (by kernel_rfl) (by kernel_rfl) (fun _ _ _ h => h) K ?_
  simp only [Act.put, List.setIfInBounds_toArray, List.set_cons_zero, List.set_cons_succ]
  refine pureH (i := 11) (some 16) rfl (.agg (row .u8 16 pnn).toArray) rfl rfl (fun _ => by kernel_rfl) (by kernel_rfl) (by kernel_rfl) (by kernel_rfl) (fun _ _ _ h => h) K ?_
  simp only [Act.put, List.setIfInBounds_toArray, List.set_cons_zero, List.set_cons_succ]
  have hb1 := (Below.refl w5.heap.size w5).alloc (Nat.le_refl _) (.cells (row .u8 3 pyy).toArray 5)
  have hb2 := (Below.refl w5.heap.size w5).alloc (Nat.le_refl _) (.cells (row .u8 3 pyy).toArray 5 ((row .u8 3 pyy).toArray.size, (row .u8 3 pyy).toArray.size + 1))
  refine actH (i := 8) (w' := w5.alloc (.cells (row .u8 3 pyy).toArray 5)) (some 13) rfl (.slice (some ⟨w5.heap.size, 0, none⟩) 3 3) (by kernel_rfl) rfl rfl (by kernel_rfl) (K.call hb1) ?_
  simp only [Act.put, List.setIfInBounds_toArray, List.set_cons_zero, List.set_cons_succ]
  refine actH (i := 9) (some 14) rfl (.slice (some ⟨w5.heap.size, 0, none⟩) 3 3) (by kernel_rfl) rfl rfl (conv_const 24 5 (row .u8 3 pyy).toArray 3 3 _ rfl rfl Tryd.underlying24 Tryd.underlying5) (K.call hb2) ?_
  simp only [Act.put, List.setIfInBounds_toArray, List.set_cons_zero, List.set_cons_succ]
  replace K := K.call hb2
  clear hb1 hb2
  have hc := (has_marked w5 .u8 3 pyy 5).src0
  generalize w5.alloc (.cells (row .u8 3 pyy).toArray 5 ((row .u8 3 pyy).toArray.size, (row .u8 3 pyy).toArray.size + 1)) = w6 at K hc ⊢
  generalize w5.heap.size = E at hc ⊢
  refine callH (i := 10) (some 15) rfl (by kernel_rfl) rfl rfl (fun _ => by kernel_rfl) (hS pnn (pnn_in 32) (some ⟨E, 0, none⟩) (3) (3) (by decide) (by decide) pyy pyy_in _ (hg.below K.below hg.size) hc) ?_
  rintro e w7 ⟨f2, rfl, s2, l⟩
  replace K := K.call l
  clear l
  refine ⟨_, rfl, K, ?_⟩
  simp only [Act.put, List.setIfInBounds_toArray, List.set_cons_zero, List.set_cons_succ]
  clear hc
  refine pureH (i := 12) (some 17) rfl (.bool true) rfl rfl (fun w => eqlV 16 f2 pnn 27 5 _ _ _ rfl rfl rfl Tryd.underlying27 Tryd.underlying5 (fun _ => by kernel_rfl) (by kernel_rfl) s2.1 (pnn_in 16) true (decide_eq_true (by rw [s2.2]; exact ptag_noughts)) w) (by kernel_rfl) (by kernel_rfl) (by kernel_rfl) (fun _ _ _ h => h) K ?_
  simp only [Act.put, List.setIfInBounds_toArray, List.set_cons_zero, List.set_cons_succ]
  refine pureH (i := 13) (some 18) rfl (.bool true) rfl rfl (fun _ => by kernel_rfl) (by kernel_rfl) (by kernel_rfl) (by kernel_rfl) (fun _ _ _ h => h) K ?_
  simp only [Act.put, List.setIfInBounds_toArray, List.set_cons_zero, List.set_cons_succ]
  refine pureH (i := 14) (some 19) rfl (.bool true) rfl rfl (fun _ => by kernel_rfl) (by kernel_rfl) (by kernel_rfl) (by kernel_rfl) (fun _ _ _ h => h) K ?_
  simp only [Act.put, List.setIfInBounds_toArray, List.set_cons_zero, List.set_cons_succ]
  refine rowKH (i := 15) (some 20) rfl .u8 16 (pww) (B) 0 27 _ _ rfl rfl rfl rfl (by kernel_rfl) (by kernel_rfl) (by kernel_rfl) (fun _ _ _ h => h) Tryd.underlying27 rfl (tag_info _) K (fun _ h => (h.get _ _ _ _ List.mem_cons_self).range) ?_
  simp only [Act.put, List.setIfInBounds_toArray, List.set_cons_zero, List.set_cons_succ]
  refine rowKH (i := 16) (some 21) rfl .u8 16 (pww) (B) 0 27 _ _ rfl rfl rfl rfl (by kernel_rfl) (by kernel_rfl) (by kernel_rfl) (fun _ _ _ h => h) Tryd.underlying27 rfl (tag_info _) K (fun _ h => (h.get _ _ _ _ List.mem_cons_self).range) ?_
  simp only [Act.put, List.setIfInBounds_toArray, List.set_cons_zero, List.set_cons_succ]
  refine callH (i := 17) (some 22) rfl (by kernel_rfl) rfl rfl (fun _ => by kernel_rfl) (hE pww pww pww_in pww_in _ (hg.below K.below hg.size)) ?_
  rintro e w8 ⟨rfl, l⟩
  replace K := K.call l
  clear l
  rw [show decide (val 256 pww 16 = val 256 pww 16) = true from decide_eq_true rfl]
  refine ⟨_, rfl, K, ?_⟩
  simp only [Act.put, List.setIfInBounds_toArray, List.set_cons_zero, List.set_cons_succ]
  refine pureH (i := 18) (some 23) rfl (.bool true) rfl rfl (fun _ => by kernel_rfl) (by kernel_rfl) (by kernel_rfl) (by kernel_rfl) (fun _ _ _ h => h) K ?_
  simp only [Act.put, List.setIfInBounds_toArray, List.set_cons_zero, List.set_cons_succ]
  refine pureH (i := 19) (some 24) rfl (.bool true) rfl rfl (fun _ => by kernel_rfl) (by kernel_rfl) (by kernel_rfl) (by kernel_rfl) (fun _ _ _ h => h) K ?_
  simp only [Act.put, List.setIfInBounds_toArray, List.set_cons_zero, List.set_cons_succ]
  refine rowKH (i := 20) (some 25) rfl .u8 16 (pww) (B) 0 27 _ _ rfl rfl rfl rfl (by kernel_rfl) (by kernel_rfl) (by kernel_rfl) (fun _ _ _ h => h) Tryd.underlying27 rfl (tag_info _) K (fun _ h => (h.get _ _ _ _ List.mem_cons_self).range) ?_
  simp only [Act.put, List.setIfInBounds_toArray, List.set_cons_zero, List.set_cons_succ]
  refine pureH (i := 21) (some 26) rfl (.agg (row .u8 16 pnn).toArray) rfl rfl (fun _ => by kernel_rfl) (by kernel_rfl) (by kernel_rfl) (by kernel_rfl) (fun _ _ _ h => h) K ?_
  simp only [Act.put, List.setIfInBounds_toArray, List.set_cons_zero, List.set_cons_succ]
  refine callH (i := 22) (some 27) rfl (by kernel_rfl) rfl rfl (fun _ => by kernel_rfl) (hE pww pnn pww_in (pnn_in 16) _ (hg.below K.below hg.size)) ?_
  rintro e w9 ⟨rfl, l⟩
  replace K := K.call l
  clear l
  rw [show decide (val 256 pww 16 = val 256 pnn 16) = false from decide_eq_false other_shown]
  refine ⟨_, rfl, K, ?_⟩
  simp only [Act.put, List.setIfInBounds_toArray, List.set_cons_zero, List.set_cons_succ]
  refine pureH (i := 23) (some 28) rfl (.bool true) rfl rfl (fun _ => by kernel_rfl) (by kernel_rfl) (by kernel_rfl) (by kernel_rfl) (fun _ _ _ h => h) K ?_
  simp only [Act.put, List.setIfInBounds_toArray, List.set_cons_zero, List.set_cons_succ]
  refine pureH (i := 24) (some 29) rfl (.bool true) rfl rfl (fun _ => by kernel_rfl) (by kernel_rfl) (by kernel_rfl) (by kernel_rfl) (fun _ _ _ h => h) K ?_
  simp only [Act.put, List.setIfInBounds_toArray, List.set_cons_zero, List.set_cons_succ]
  refine pureH (i := 25) (some 0) rfl (.bool true) rfl rfl (fun _ => by kernel_rfl) (by kernel_rfl) (by kernel_rfl) (by kernel_rfl) (fun _ _ _ h => h) K ?_
  simp only [Act.put, List.setIfInBounds_toArray, List.set_cons_zero]
  refine wpAnyH_done (by kernel_rfl) ?_ _
  have hB := K.below
  clear K
  go_wp2
  go_ret
  exact ⟨rfl, hB⟩
end Go.Proofs.YtnphoennagmiaaaDoor
