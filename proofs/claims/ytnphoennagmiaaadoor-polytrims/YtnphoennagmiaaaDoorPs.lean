/- What the program's Sum and Same answer. -/
import Derived.Test.YtnphoennagmiaaaDoorPd
import Derived.Test.YtnphoennagmiaaaDoorPm
import Derived.Test.YtnphoennagmiaaaDoorPr
import Derived.Test.YtnphoennagmiaaaDoorHold
namespace Go.Proofs.YtnphoennagmiaaaDoor
open Go.RowKit

/-- Part of a row, as a range. -/
theorem Has.mid {w : World} {b : Nat} {k : IntKind} {n : Nat} {f : Nat → Int} (h : Has w b k n f) (o m : Nat) (ho : o + m ≤ n) : w.rangeAt b o (row k m (fun j => f (o + j))) := fun j v hv => by
  obtain ⟨hj, rfl⟩ := row_get_some hv
  exact h.cell (o + j) (by omega)

set_option maxRecDepth 10000 in
set_option maxHeartbeats 8000000 in
theorem pfactor_any (r : Nat → Int) (hr : In 256 16 r) (w : World) (hg : Glob w) :
    Calls Tryd.prog 17 #[(.agg (row .u8 16 (r)).toArray)] w fun e w' => e = .returned (.agg (row .u8 17 (byB (trimT r))).toArray) ∧ Below w.heap.size w w' := by
  have K := Kr.init w
  replace K := K.box .u8 16 r 27 (w.heap.size) rfl
  replace K := K.make 17 #[.int .u8 0, .int .u8 0, .int .u8 0, .int .u8 0, .int .u8 0, .int .u8 0, .int .u8 0, .int .u8 0, .int .u8 0, .int .u8 0, .int .u8 0, .int .u8 0, .int .u8 0, .int .u8 0, .int .u8 0, .int .u8 0, .int .u8 0] 33 (w.heap.size + 1) (by simp) (big_zero _ _ _ (by simp)).there
  go_enter Tryd.func17, Tryd.ntmps17
  go_upto_region 1 with fail
  generalize ((w.alloc (.cells (row .u8 16 r).toArray 27)).alloc (.cells #[.int .u8 0, .int .u8 0, .int .u8 0, .int .u8 0, .int .u8 0, .int .u8 0, .int .u8 0, .int .u8 0, .int .u8 0, .int .u8 0, .int .u8 0, .int .u8 0, .int .u8 0, .int .u8 0, .int .u8 0, .int .u8 0, .int .u8 0] 33)) = w0 at K ⊢
  refine wp_region_list ?_
  refine rowKL .u8 16 (r) (w.heap.size) 0 27 _ _ rfl rfl rfl Tryd.underlying27 rfl (tag_info _) ((K.get _ _ _ _ List.mem_cons_self).range) ?_
  simp only [Act.put, List.setIfInBounds_toArray, List.set_cons_zero, List.set_cons_succ]
  refine callL rfl (fun _ => by kernel_rfl) (ctrim_any r hr _ (hg.below K.below hg.size)) ?_
  rintro e w1 ⟨rfl, l⟩
  replace K := K.call l
  clear l
  refine ⟨_, rfl, ?_⟩
  simp only [Act.put, List.setIfInBounds_toArray, List.set_cons_zero, List.set_cons_succ]
  refine storesL .u8 16 (trimT r) (w.heap.size) 27 _ _ rfl rfl rfl rfl (tag_there (K.get _ _ _ _ List.mem_cons_self)) (tag_info' _) ?_
  simp only [Act.put]
  replace K := K.set [] (w.heap.size) .u8 16 r (trimT r) List.mem_cons_self (fun _ hp => by cases hp) (fun _ hp => by cases hp) (Nat.le_refl _)
  generalize w1.setCells (w.heap.size) 0 (row .u8 16 (trimT r)) = w2 at K ⊢
  show Exit.then _ _ _ _ _
  go_upto_region 2 with fail
  have zX := K.size
  replace K := K.boxO .u8 17 (fun _ => 0) (.cells #[.int .u8 0, .int .u8 0, .int .u8 0, .int .u8 0, .int .u8 0, .int .u8 0, .int .u8 0, .int .u8 0, .int .u8 0, .int .u8 0, .int .u8 0, .int .u8 0, .int .u8 0, .int .u8 0, .int .u8 0, .int .u8 0, .int .u8 0] 33) w2.heap.size rfl (big_zero _ _ _ rfl)
  go_upto_region 3 with fail
  generalize hw : w2.alloc (.cells #[.int .u8 0, .int .u8 0, .int .u8 0, .int .u8 0, .int .u8 0, .int .u8 0, .int .u8 0, .int .u8 0, .int .u8 0, .int .u8 0, .int .u8 0, .int .u8 0, .int .u8 0, .int .u8 0, .int .u8 0, .int .u8 0, .int .u8 0] 33) = w3 at K ⊢
  clear hw
  generalize w2.heap.size = X at *
  have HR := K.get _ _ _ _ List.mem_cons_self
  replace K := K.loose [(w.heap.size, .u8, 16, trimT r)] X .u8 17 (fun _ => 0) List.mem_cons_self (fun p hp => by obtain rfl := List.mem_singleton.1 hp; exact (List.mem_cons_of_mem _ List.mem_cons_self)) (fun p hp => by obtain rfl := List.mem_singleton.1 hp; simp only; omega) (by omega)
  refine wp_region_held_drew (S := fun w' => Kr w (X + 1) [(w.heap.size, .u8, 16, trimT r)] [(X, 17), (w.heap.size + 1, 17)] w') (by kernel_rfl) K.drew ?_
  clear K
  intro K
  replace HR := HR.drew
  generalize w3.drew = w4 at K HR ⊢
  refine pureH (i := 0) (some 6) rfl (.slice (some ⟨X, 0, none⟩) 17 17) rfl rfl (fun _ => by kernel_rfl) (by kernel_rfl) (by kernel_rfl) (by kernel_rfl) (fun _ _ _ h => h) K ?_
  simp only [Act.put, List.setIfInBounds_toArray, List.set_cons_zero, List.set_cons_succ]
  refine pureH (i := 1) (some 7) rfl (.slice (some ⟨w.heap.size, 0, none⟩) 16 16) rfl rfl (fun _ => by kernel_rfl) (by kernel_rfl) (by kernel_rfl) (by kernel_rfl) (fun _ _ _ h => h) K ?_
  simp only [Act.put, List.setIfInBounds_toArray, List.set_cons_zero, List.set_cons_succ]
  refine actH (i := 2) (some 8) rfl (.int .i64 ((16 : Nat) : Int)) (by kernel_rfl) rfl rfl (run_copy_src _ _ 24 24 5 rfl Tryd.underlying24 (by kernel_rfl) X 17 17 16 16 17 (some ⟨w.heap.size, 0, none⟩) (trimT r) rfl rfl (by decide) (by decide) HR.there (K.get _ _ _ _ List.mem_cons_self).src0) (K.fill X 17 List.mem_cons_self (row .u8 16 (trimT r))) ?_
  simp only [Act.put, List.setIfInBounds_toArray, List.set_cons_zero, List.set_cons_succ]
  refine wpAnyH_done (by kernel_rfl) ?_ _
  replace K := K.fill X 17 List.mem_cons_self (row .u8 16 (trimT r))
  replace HR := (HR.part 0 16 (by decide) (trimT r)).congr (g := byB (trimT r)) (fun j hj => by
    unfold over byB
    by_cases e : j < 16
    · rw [if_pos (by omega), if_pos e, Nat.sub_zero]
    · rw [if_neg (by omega), if_neg e])
  generalize w4.setCells X 0 (row .u8 16 (trimT r)) = w5 at K HR ⊢
  go_upto_region 4 with fail
  have hz := (K.room _ (List.mem_cons_of_mem _ List.mem_cons_self)).1
  have hB := (K.fill _ _ (List.mem_cons_of_mem _ List.mem_cons_self) (row .u8 17 (byB (trimT r)))).below
  clear K
  generalize hj : byB (trimT r) = f at *
  go_wp2_with (first | (refine wpList_load_mid rfl 33 _ rfl (X) 0 rfl (row .u8 17 (f)) _ (Has.range (HR)) Tryd.underlying33 rfl (big_info _) ?_) | (refine wpList_store_mid rfl 33 _ _ rfl (w.heap.size + 1) 0 (row .u8 17 f).toArray rfl rfl (room_of hz) (big_info' _) (all_oneCell_toArray (row_one _ _ _)) ?_))
  exact bodyPost_ret (v := (.agg (row .u8 17 (f)).toArray)) (results_row Tryd.results17 rfl (Has.all hz .u8 f).range Tryd.underlying33 rfl (big_info f)) rfl ⟨rfl, hB⟩

set_option maxRecDepth 10000 in
set_option maxHeartbeats 8000000 in
theorem pnumber_any (sp : Option Addr) (len cap : Nat) (z : Nat → Int) (w : World) (hs : Src w sp len z) :
    Calls Tryd.prog 20 #[.slice sp len cap] w fun e w' => e = .returned (.agg (row .u8 17 (blk len z)).toArray) ∧ Below w.heap.size w w' := by
  have K := Kr.init w
  replace K := K.make 17 #[.int .u8 0, .int .u8 0, .int .u8 0, .int .u8 0, .int .u8 0, .int .u8 0, .int .u8 0, .int .u8 0, .int .u8 0, .int .u8 0, .int .u8 0, .int .u8 0, .int .u8 0, .int .u8 0, .int .u8 0, .int .u8 0, .int .u8 0] 33 (w.heap.size) rfl (big_zero _ _ _ rfl).there
  go_enter Tryd.func20, Tryd.ntmps20
  go_upto_region 1 with fail
  generalize (w.alloc (.cells #[.int .u8 0, .int .u8 0, .int .u8 0, .int .u8 0, .int .u8 0, .int .u8 0, .int .u8 0, .int .u8 0, .int .u8 0, .int .u8 0, .int .u8 0, .int .u8 0, .int .u8 0, .int .u8 0, .int .u8 0, .int .u8 0, .int .u8 0] 33)) = w0 at K ⊢
  refine wp_region_list ?_
  refine pureL (.slice sp len cap) rfl (fun _ => by kernel_rfl) ?_
  simp only [Act.put, List.setIfInBounds_toArray, List.set_cons_zero, List.set_cons_succ]
  refine callL rfl (fun _ => by kernel_rfl) (cblock_any sp len cap z _ (hs.below K.below (Nat.le_refl _))) ?_
  rintro e w1 ⟨rfl, l⟩
  replace K := K.call l
  clear l
  refine ⟨_, rfl, ?_⟩
  simp only [Act.put, List.setIfInBounds_toArray, List.set_cons_zero, List.set_cons_succ]
  refine pureL (.tuple #[.agg (row .u8 17 (blk len z)).toArray, .int .i64 (blkE len)]) rfl (fun _ => by kernel_rfl) ?_
  simp only [Act.put, List.setIfInBounds_toArray, List.set_cons_zero, List.set_cons_succ]
  refine pureL (.agg (row .u8 17 (blk len z)).toArray) rfl (fun _ => by kernel_rfl) ?_
  simp only [Act.put, List.setIfInBounds_toArray, List.set_cons_zero, List.set_cons_succ]
  refine pureL (.int .i64 (blkE len)) rfl (fun _ => by kernel_rfl) ?_
  simp only [Act.put, List.setIfInBounds_toArray, List.set_cons_zero, List.set_cons_succ]
  refine allocL #[.int .u8 0, .int .u8 0, .int .u8 0, .int .u8 0, .int .u8 0, .int .u8 0, .int .u8 0, .int .u8 0, .int .u8 0, .int .u8 0, .int .u8 0, .int .u8 0, .int .u8 0, .int .u8 0, .int .u8 0, .int .u8 0, .int .u8 0] 33 rfl (fun _ => by kernel_rfl) ?_
  simp only [Act.put, List.setIfInBounds_toArray, List.set_cons_zero, List.set_cons_succ]
  refine storesL .u8 17 (blk len z) w1.heap.size 33 _ _ rfl rfl rfl rfl (room_of (big_zero _ _ _ rfl).there) (big_info' _) ?_
  simp only [Act.put]
  have zG := K.size
  replace K := K.fresh .u8 17 (blk len z) #[.int .u8 0, .int .u8 0, .int .u8 0, .int .u8 0, .int .u8 0, .int .u8 0, .int .u8 0, .int .u8 0, .int .u8 0, .int .u8 0, .int .u8 0, .int .u8 0, .int .u8 0, .int .u8 0, .int .u8 0, .int .u8 0, .int .u8 0] 33 (big_zero _ _ _ rfl).there
  generalize ((w1.alloc (.cells #[.int .u8 0, .int .u8 0, .int .u8 0, .int .u8 0, .int .u8 0, .int .u8 0, .int .u8 0, .int .u8 0, .int .u8 0, .int .u8 0, .int .u8 0, .int .u8 0, .int .u8 0, .int .u8 0, .int .u8 0, .int .u8 0, .int .u8 0] 33)).setCells w1.heap.size 0 (row .u8 17 (blk len z))) = w2 at K ⊢
  generalize w1.heap.size = G at *
  refine pureL (.int .i64 (blkE len)) rfl (fun _ => by kernel_rfl) ?_
  simp only [Act.put, List.setIfInBounds_toArray, List.set_cons_zero, List.set_cons_succ]
  show Exit.then _ _ _ _ _
  go_upto_region 2 with fail
  have HR := K.get _ _ _ _ List.mem_cons_self
  have hz := (K.room _ List.mem_cons_self).1
  have hB := (K.fill _ _ List.mem_cons_self (row .u8 17 (blk len z))).below
  clear K hs
  generalize hj : blk len z = f at *
  go_wp2_with (first | (refine wpList_load_mid rfl 33 _ rfl (G) 0 rfl (row .u8 17 (f)) _ (Has.range (HR)) Tryd.underlying33 rfl (big_info _) ?_) | (refine wpList_store_mid rfl 33 _ _ rfl (w.heap.size) 0 (row .u8 17 f).toArray rfl rfl (room_of hz) (big_info' _) (all_oneCell_toArray (row_one _ _ _)) ?_))
  exact bodyPost_ret (v := (.agg (row .u8 17 (f)).toArray)) (results_row Tryd.results20 rfl (Has.all hz .u8 f).range Tryd.underlying33 rfl (big_info f)) rfl ⟨rfl, hB⟩

set_option maxRecDepth 10000 in
set_option maxHeartbeats 8000000 in
theorem psum_any : SumOK := by
  intro k hk sp len cap hlen hcap z hz w hg hs
  have hk1 : In 256 16 k := fun j hj => hk j (by omega)
  have hk2 : In 256 16 (fun j => k (16 + j)) := fun j hj => hk (16 + j) (by omega)
  have K := Kr.init w
  replace K := K.box .u8 32 k 23 (w.heap.size) rfl
  replace K := K.make 16 #[.int .u8 0, .int .u8 0, .int .u8 0, .int .u8 0, .int .u8 0, .int .u8 0, .int .u8 0, .int .u8 0, .int .u8 0, .int .u8 0, .int .u8 0, .int .u8 0, .int .u8 0, .int .u8 0, .int .u8 0, .int .u8 0] 27 (w.heap.size + 1) (by simp) (tag_zero _ _ _ (by simp)).there
  go_enter Tryd.func9, Tryd.ntmps9
  go_upto_region 1 with fail
  generalize ((w.alloc (.cells (row .u8 32 k).toArray 23)).alloc (.cells #[.int .u8 0, .int .u8 0, .int .u8 0, .int .u8 0, .int .u8 0, .int .u8 0, .int .u8 0, .int .u8 0, .int .u8 0, .int .u8 0, .int .u8 0, .int .u8 0, .int .u8 0, .int .u8 0, .int .u8 0, .int .u8 0] 27)) = w0 at K ⊢
  refine wp_region_list ?_
  refine pureL (.slice (some ⟨w.heap.size, 0, none⟩) 16 32) rfl (fun _ => by kernel_rfl) ?_
  simp only [Act.put, List.setIfInBounds_toArray, List.set_cons_zero, List.set_cons_succ]
  refine pureL (.pointer (some ⟨w.heap.size, 0, none⟩)) rfl (fun _ => by kernel_rfl) ?_
  simp only [Act.put, List.setIfInBounds_toArray, List.set_cons_zero, List.set_cons_succ]
  refine rowKL .u8 16 k (w.heap.size) 0 27 _ _ rfl rfl rfl Tryd.underlying27 rfl (tag_info _) (by have h := (K.get _ _ _ _ List.mem_cons_self).mid 0 16 (by decide); simpa using h) ?_
  simp only [Act.put, List.setIfInBounds_toArray, List.set_cons_zero, List.set_cons_succ]
  refine callL rfl (fun _ => by kernel_rfl) (pfactor_any k hk1 _ (hg.below K.below hg.size)) ?_
  rintro e w1 ⟨rfl, l⟩
  replace K := K.call l
  clear l
  refine ⟨_, rfl, ?_⟩
  simp only [Act.put, List.setIfInBounds_toArray, List.set_cons_zero, List.set_cons_succ]
  refine allocL #[.int .u8 0, .int .u8 0, .int .u8 0, .int .u8 0, .int .u8 0, .int .u8 0, .int .u8 0, .int .u8 0, .int .u8 0, .int .u8 0, .int .u8 0, .int .u8 0, .int .u8 0, .int .u8 0, .int .u8 0, .int .u8 0, .int .u8 0] 33 rfl (fun _ => by kernel_rfl) ?_
  simp only [Act.put, List.setIfInBounds_toArray, List.set_cons_zero, List.set_cons_succ]
  refine storesL .u8 17 (byB (trimT k)) w1.heap.size 33 _ _ rfl rfl rfl rfl (room_of (big_zero _ _ _ rfl).there) (big_info' _) ?_
  simp only [Act.put]
  have zT := K.size
  replace K := K.fresh .u8 17 (byB (trimT k)) #[.int .u8 0, .int .u8 0, .int .u8 0, .int .u8 0, .int .u8 0, .int .u8 0, .int .u8 0, .int .u8 0, .int .u8 0, .int .u8 0, .int .u8 0, .int .u8 0, .int .u8 0, .int .u8 0, .int .u8 0, .int .u8 0, .int .u8 0] 33 (big_zero _ _ _ rfl).there
  generalize ((w1.alloc (.cells #[.int .u8 0, .int .u8 0, .int .u8 0, .int .u8 0, .int .u8 0, .int .u8 0, .int .u8 0, .int .u8 0, .int .u8 0, .int .u8 0, .int .u8 0, .int .u8 0, .int .u8 0, .int .u8 0, .int .u8 0, .int .u8 0, .int .u8 0] 33)).setCells w1.heap.size 0 (row .u8 17 (byB (trimT k)))) = w2 at K ⊢
  generalize w1.heap.size = T at *
  show Exit.then _ _ _ _ _
  go_upto_region 2 with fail
  have zX := K.size
  replace K := K.boxO .u8 17 (fun _ => 0) (.cells #[.int .u8 0, .int .u8 0, .int .u8 0, .int .u8 0, .int .u8 0, .int .u8 0, .int .u8 0, .int .u8 0, .int .u8 0, .int .u8 0, .int .u8 0, .int .u8 0, .int .u8 0, .int .u8 0, .int .u8 0, .int .u8 0, .int .u8 0] 33) w2.heap.size rfl (big_zero _ _ _ rfl)
  go_upto_region 3 with fail
  generalize hw : w2.alloc (.cells #[.int .u8 0, .int .u8 0, .int .u8 0, .int .u8 0, .int .u8 0, .int .u8 0, .int .u8 0, .int .u8 0, .int .u8 0, .int .u8 0, .int .u8 0, .int .u8 0, .int .u8 0, .int .u8 0, .int .u8 0, .int .u8 0, .int .u8 0] 33) = w5 at K ⊢
  clear hw
  generalize w2.heap.size = X at *
  go_wp2
  go_loopw [7] (fun i w' => ∃ (t : Nat) (a : Nat → Int), 16 * t < len + 16 ∧ i = .int .i64 (16 * (t : Int)) ∧ Kr w (X + 1) [(X, .u8, 17, a), (T, .u8, 17, byB (trimT k)), (w.heap.size, .u8, 32, k)] [(w.heap.size + 1, 16)] w' ∧ In 256 17 a ∧ val 256 a 17 = acc (pR k) len z t) (fun i _ => len + 16 - (intOf i).toNat)
  case atStart => exact ⟨0, _, by omega, rfl, K, fun _ _ => ⟨Int.le_refl 0, (by decide : (0 : Int) < 256)⟩, by show val 256 (fun _ => 0) 17 = 0; decide⟩
  case round =>
    clear K
    obtain ⟨t, a, ht, rfl, K, ha, hv⟩ := hrel
    have g1 : (0 : Int) ≤ 16 * (t : Int) := by omega
    by_cases hlt : 16 * t < len
    · have g2 : 16 * (t : Int) < (len : Int) := by omega
      obtain ⟨M, hM⟩ : ∃ M : Nat, M = min (16 * t + 16) len := ⟨_, rfl⟩
      have hm : (if (len : Int) < 16 * (t : Int) + 16 then (len : Int) else 16 * (t : Int) + 16) = (M : Int) := by rw [hM]; split <;> omega
      obtain ⟨sq, hq1, hq2⟩ := cut_lh (P := Tryd.prog) (t := 24) (by kernel_rfl) (fun _ => by kernel_rfl) sp len cap (16 * t) M (by omega) (by omega) hcap
      have hpc : M - 16 * t = pcN len t := by unfold pcN; omega
      rw [hpc] at hq1 hq2
      have ec : ((16 * t : Nat) : Int) = 16 * (t : Int) := by omega
      rw [ec] at hq1
      go_upto_region 6 with fail
      refine wp_region_C (S := fun w' => Kr w (X + 1) [(X, .u8, 17, a), (T, .u8, 17, byB (trimT k)), (w.heap.size, .u8, 32, k)] [(w.heap.size + 1, 16)] w') 13 (by kernel_rfl) K.drew ?_
      clear K
      intro K
      refine rowC (i := 0) (some 18) rfl .u8 17 (a) (X) 0 33 _ _ rfl rfl (by kernel_rfl) rfl rfl rfl (by kernel_rfl) (by kernel_rfl) (by kernel_rfl) (by kernel_rfl) (fun _ _ _ h => h) Tryd.underlying33 rfl (big_info _) K (fun _ h => (h.get _ _ _ _ List.mem_cons_self).range) ?_
      simp only [Act.put, List.setIfInBounds_toArray, List.set_cons_zero, List.set_cons_succ]
      refine pureC (i := 1) (some 19) rfl (.slice sp len cap) rfl (by decide) rfl (fun _ => by kernel_rfl) (by kernel_rfl) (by kernel_rfl) (by kernel_rfl) (fun _ _ _ h => h) K ?_
      simp only [Act.put, List.setIfInBounds_toArray, List.set_cons_zero, List.set_cons_succ]
      refine pureC (i := 2) (some 20) rfl (.int .i64 (16 * (t : Int))) rfl (by decide) rfl (fun _ => by kernel_rfl) (by kernel_rfl) (by kernel_rfl) (by kernel_rfl) (fun _ _ _ h => h) K ?_
      simp only [Act.put, List.setIfInBounds_toArray, List.set_cons_zero, List.set_cons_succ]
      refine pureC (i := 3) (some 21) rfl (.int .i64 (16 * (t : Int))) rfl (by decide) rfl (fun _ => by kernel_rfl) (by kernel_rfl) (by kernel_rfl) (by kernel_rfl) (fun _ _ _ h => h) K ?_
      simp only [Act.put, List.setIfInBounds_toArray, List.set_cons_zero, List.set_cons_succ]
      refine pureC (i := 4) (some 22) rfl (.int .i64 (16 * (t : Int) + 16)) rfl (by decide) rfl (fun w => addI .i64 _ _ _ _ _ _ _ rfl rfl rfl (by rw [IntKind.wrap_i64]; omega) w) (by kernel_rfl) (by kernel_rfl) (by kernel_rfl) (fun _ _ _ h => h) K ?_
      simp only [Act.put, List.setIfInBounds_toArray, List.set_cons_zero, List.set_cons_succ]
      refine pureC (i := 5) (some 23) rfl (.slice sp len cap) rfl (by decide) rfl (fun _ => by kernel_rfl) (by kernel_rfl) (by kernel_rfl) (by kernel_rfl) (fun _ _ _ h => h) K ?_
      simp only [Act.put, List.setIfInBounds_toArray, List.set_cons_zero, List.set_cons_succ]
      refine rowC (i := 11) (some 29) rfl .u8 17 (byB (trimT k)) (T) 0 33 _ _ rfl rfl (by kernel_rfl) rfl rfl rfl (by kernel_rfl) (by kernel_rfl) (by kernel_rfl) (by kernel_rfl) (fun _ _ _ h => h) Tryd.underlying33 rfl (big_info _) K (fun _ h => (h.get _ _ _ _ (List.mem_cons_of_mem _ List.mem_cons_self)).range) ?_
      simp only [Act.put, List.setIfInBounds_toArray, List.set_cons_zero, List.set_cons_succ]
      refine pureC (i := 6) (some 24) rfl (.int .i64 (len : Int)) rfl (by decide) rfl (fun w => lenS _ 24 5 sp len cap rfl Tryd.underlying24 rfl w) (by kernel_rfl) (by kernel_rfl) (by kernel_rfl) (fun _ _ _ h => h) K ?_
      simp only [Act.put, List.setIfInBounds_toArray, List.set_cons_zero, List.set_cons_succ]
      refine pureC (i := 7) (some 25) rfl (.int .i64 (M : Int)) rfl (by decide) rfl (fun w => minI .i64 .i64 _ _ _ _ _ _ _ rfl rfl rfl hm w) (by kernel_rfl) (by kernel_rfl) (by kernel_rfl) (fun _ _ _ h => h) K ?_
      simp only [Act.put, List.setIfInBounds_toArray, List.set_cons_zero, List.set_cons_succ]
      refine pureC (i := 8) (some 26) rfl (.slice sq (pcN len t) (cap - 16 * t)) rfl (by decide) rfl (fun w => cutLHop _ _ _ _ _ _ _ _ rfl rfl rfl rfl (hq1 w)) (by kernel_rfl) (by kernel_rfl) (by kernel_rfl) (fun _ _ _ h => h) K ?_
      simp only [Act.put, List.setIfInBounds_toArray, List.set_cons_zero, List.set_cons_succ]
      refine callMC (i := 9) (some 27) rfl (by kernel_rfl) rfl rfl (fun _ => by kernel_rfl) (pnumber_any sq (pcN len t) (cap - 16 * t) (fun j => z (16 * t + j)) _ ((hq2 _ _ hs).below K.below (Nat.le_refl _))) ?_
      rintro e w9 ⟨rfl, l⟩
      replace K := K.call l
      clear l
      refine ⟨_, rfl, K, ?_⟩
      simp only [Act.put, List.setIfInBounds_toArray, List.set_cons_zero, List.set_cons_succ]
      refine callMC (i := 10) (some 28) rfl (by kernel_rfl) rfl rfl (fun _ => by kernel_rfl) (cadd_any a (piece len z t) ha (piece_in len z t hz) _ (hg.below K.below hg.size)) ?_
      rintro e w11 ⟨f1, rfl, s1, l⟩
      replace K := K.call l
      clear l
      refine ⟨_, rfl, K, ?_⟩
      simp only [Act.put, List.setIfInBounds_toArray, List.set_cons_zero, List.set_cons_succ]
      refine callMC (i := 12) (some 30) rfl (by kernel_rfl) rfl rfl (fun _ => by kernel_rfl) (cmul_any f1 (byB (trimT k)) s1.1 (byB_in _ (trimT_in k hk1)) _ (hg.below K.below hg.size)) ?_
      rintro e w12 ⟨f2, rfl, s2, l⟩
      replace K := K.call l
      clear l
      refine ⟨_, rfl, K, ?_⟩
      simp only [Act.put, List.setIfInBounds_toArray, List.set_cons_zero, List.set_cons_succ]
      refine storesC (S2 := fun _ => True) none rfl .u8 17 f2 X 33 _ _ (by kernel_rfl) rfl rfl rfl rfl rfl (big_there (K.get _ _ _ _ List.mem_cons_self)) (big_info' _) (by kernel_rfl) ?_
      simp only [Act.put]
      refine wpAnyH_done (by kernel_rfl) ?_ _
      have hv2 : val 256 f2 17 = acc (pR k) len z (t + 1) := acc_step (by rw [s1.2, hv]) (byB_val (trimT k)) s2.2
      replace K := K.set [(T, .u8, 17, byB (trimT k)), (w.heap.size, .u8, 32, k)] X .u8 17 a f2 List.mem_cons_self (fun p hp => by rcases List.mem_cons.1 hp with rfl | hp; exact (List.mem_cons_of_mem _ List.mem_cons_self); obtain rfl := List.mem_singleton.1 hp; exact (List.mem_cons_of_mem _ (List.mem_cons_of_mem _ List.mem_cons_self))) (fun p hp => by rcases List.mem_cons.1 hp with rfl | hp; simp only; omega; obtain rfl := List.mem_singleton.1 hp; simp only; omega) (by omega)
      have HS := show Hid _ from (And.intro K (And.intro s2.1 hv2))
      clear K s1 s2 hv hv2 ha hm hM hq1 hq2 hpc ec
      generalize w12.setCells X 0 (row .u8 17 f2) = w13 at HS ⊢
      go_wp2
      go_roundw
      case rel => first | exact ⟨t + 1, f2, by omega, by go_num, HS.out⟩ | ((repeat apply Exists.intro); refine ⟨⟨t + 1, f2, by omega, by go_num, HS.out⟩, rfl⟩)
      case measure => simp [intOf]; omega
    · obtain rfl : t = npc len := by unfold npc; omega
      go_upto_region 7 with fail
      refine wp_region_C (S := fun w' => Kr w (X + 1) [(X, .u8, 17, a), (T, .u8, 17, byB (trimT k)), (w.heap.size, .u8, 32, k)] [(w.heap.size + 1, 16)] w') 5 (by kernel_rfl) K.drew ?_
      clear K
      intro K
      refine rowC (i := 0) (some 31) rfl .u8 17 (a) (X) 0 33 _ _ rfl rfl (by kernel_rfl) rfl rfl rfl (by kernel_rfl) (by kernel_rfl) (by kernel_rfl) (by kernel_rfl) (fun _ _ _ h => h) Tryd.underlying33 rfl (big_info _) K (fun _ h => (h.get _ _ _ _ List.mem_cons_self).range) ?_
      simp only [Act.put, List.setIfInBounds_toArray, List.set_cons_zero, List.set_cons_succ]
      refine pureC (i := 1) (some 32) rfl (.slice (some ⟨w.heap.size, 16, none⟩) 16 16) rfl (by decide) rfl (fun _ => by kernel_rfl) (by kernel_rfl) (by kernel_rfl) (by kernel_rfl) (fun _ _ _ h => h) K ?_
      simp only [Act.put, List.setIfInBounds_toArray, List.set_cons_zero, List.set_cons_succ]
      refine pureC (i := 2) (some 33) rfl (.pointer (some ⟨w.heap.size, 16, none⟩)) rfl (by decide) rfl (fun _ => by kernel_rfl) (by kernel_rfl) (by kernel_rfl) (by kernel_rfl) (fun _ _ _ h => h) K ?_
      simp only [Act.put, List.setIfInBounds_toArray, List.set_cons_zero, List.set_cons_succ]
      refine rowC (i := 3) (some 34) rfl .u8 16 (fun j => k (16 + j)) (w.heap.size) 16 27 _ _ rfl rfl (by kernel_rfl) rfl rfl rfl (by kernel_rfl) (by kernel_rfl) (by kernel_rfl) (by kernel_rfl) (fun _ _ _ h => h) Tryd.underlying27 rfl (tag_info _) K (fun _ h => (h.get _ _ _ _ (List.mem_cons_of_mem _ (List.mem_cons_of_mem _ List.mem_cons_self))).mid 16 16 (by decide)) ?_
      simp only [Act.put, List.setIfInBounds_toArray, List.set_cons_zero, List.set_cons_succ]
      refine callMC (i := 4) (some 35) rfl (by kernel_rfl) rfl rfl (fun _ => by kernel_rfl) (clow_any a (fun j => k (16 + j)) ha hk2 _ (hg.below K.below hg.size)) ?_
      rintro e w9 ⟨f, rfl, s1, l⟩
      replace K := K.call l
      clear l
      refine ⟨_, rfl, K, ?_⟩
      simp only [Act.put, List.setIfInBounds_toArray, List.set_cons_zero, List.set_cons_succ]
      have hz' := (K.room _ List.mem_cons_self).1
      refine storesC (S2 := fun _ => True) none rfl .u8 16 f (w.heap.size + 1) 27 _ _ (by kernel_rfl) rfl rfl rfl rfl rfl (room_of hz') (tag_info' _) (by kernel_rfl) ?_
      simp only [Act.put]
      refine wpAnyH_done (by kernel_rfl) ?_ _
      have hB := (K.fill _ _ List.mem_cons_self (row .u8 16 f)).below
      have HE := show Hid _ from (And.intro s1.1 (show val 256 f 16 = ptag k len z by rw [s1.2, hv]; rfl))
      clear K s1 hv ha hlt ht g1
      go_wp2
      exact bodyPost_ret (v := (.agg (row .u8 16 (f)).toArray)) (results_row Tryd.results9 rfl (Has.all hz' .u8 f).range Tryd.underlying27 rfl (tag_info f)) rfl ⟨f, rfl, HE.out, hB⟩

theorem or_byte (d x y : Int) (hd : 0 ≤ d ∧ d < 256) (hx : 0 ≤ x ∧ x < 256) (hy : 0 ≤ y ∧ y < 256) :
    (0 ≤ bits .or .u8 d (bits .xor .u8 x y) ∧ bits .or .u8 d (bits .xor .u8 x y) < 256) ∧ (bits .or .u8 d (bits .xor .u8 x y) = 0 ↔ d = 0 ∧ x = y) := by
  obtain ⟨d, rfl⟩ := Int.eq_ofNat_of_zero_le hd.1
  obtain ⟨x, rfl⟩ := Int.eq_ofNat_of_zero_le hx.1
  obtain ⟨y, rfl⟩ := Int.eq_ofNat_of_zero_le hy.1
  have h1 : x ^^^ y < 2 ^ 8 := Nat.xor_lt_two_pow (by omega) (by omega)
  have h2 : d ||| (x ^^^ y) < 2 ^ 8 := Nat.or_lt_two_pow (by omega) h1
  rw [u8_xor_nat x y (by omega) (by omega), u8_or_nat d _ (by omega) (by omega)]
  refine ⟨by omega, ?_⟩
  have e : ((d ||| (x ^^^ y) : Nat) : Int) = 0 ↔ d ||| (x ^^^ y) = 0 := by omega
  have e2 : x ^^^ y = 0 ↔ x = y := by
    constructor
    · intro h
      have h' : x ^^^ (x ^^^ y) = x := by rw [h, Nat.xor_zero]
      rw [← Nat.xor_assoc, Nat.xor_self, Nat.zero_xor] at h'
      exact h'.symm
    · intro h; rw [h, Nat.xor_self]
  rw [e, Nat.or_eq_zero_iff, e2]
  omega
theorem orI {P : Program} {o : Oper} {a : Act} (k : IntKind) (n n' r : Int) (t t' : TypeId) (x y : Operand) (ho : o.op = .binOp .or t x y t') (hx : a.eval x = .int k n) (hy : a.eval y = .int k n') (hr : bits .or k n n' = r) (w : World) : (execOp a.eval o).run P w = .ok (.value (.int k r)) w := by
  unfold execOp
  simp only [ho, hx, hy, Sem.run_bind, eqGuard_at_int, binOp_or, intBits_or, Sem.run_pure, Result.andThen_ok, hr]
theorem same_iff (a b : Nat → Int) (ha : In 256 16 a) (hb : In 256 16 b) (d : Int) (h : d = 0 ↔ ∀ j, j < 16 → a j = b j) : (d == 0) = decide (val 256 a 16 = val 256 b 16) := by
  have e : d = 0 ↔ val 256 a 16 = val 256 b 16 := h.trans ⟨fun h => val_congr 256 16 h, fun h => val_inj 256 (by decide) a b 16 ha hb h⟩
  by_cases hd : d = 0
  · rw [decide_eq_true (e.1 hd), hd]; rfl
  · rw [decide_eq_false (fun h => hd (e.2 h))]; simpa using hd

set_option maxRecDepth 10000 in
set_option maxHeartbeats 8000000 in
theorem psame_any : SameOK := by
  intro a b ha hb w _
  have K := ((Kr.init w).box .u8 16 a 27 (w.heap.size) rfl).box .u8 16 b 27 (w.heap.size + 1) (by simp)
  go_enter Tryd.func11, Tryd.ntmps11
  go_upto_region 1 with fail
  generalize ((w.alloc (.cells (row .u8 16 a).toArray 27)).alloc (.cells (row .u8 16 b).toArray 27)) = w0 at K ⊢
  go_wp2
  go_loopw [5, 7] (fun so i w' => ∃ (m : Nat) (d : Int), m ≤ 16 ∧ i = .int .i64 m ∧ so = .int .u8 d ∧ Kr w (w.heap.size + 1 + 1) [(w.heap.size + 1, .u8, 16, b), (w.heap.size, .u8, 16, a)] [] w' ∧ (0 ≤ d ∧ d < 256) ∧ (d = 0 ↔ ∀ j, j < m → a j = b j)) (fun _ i _ => 16 - (intOf i).toNat)
  case atStart => exact ⟨0, 0, by omega, rfl, rfl, K, by omega, by simp⟩
  case round =>
    clear K
    obtain ⟨m, d, hm, rfl, rfl, K, hd, hz⟩ := hrel
    have g1 : (0 : Int) ≤ (m : Int) := by omega
    by_cases hlt : m < 16
    · have g2 : (m : Int) < 16 := by omega
      go_upto_region 5 with fail
      refine wp_region_held_drew (S := fun w' => Kr w (w.heap.size + 1 + 1) [(w.heap.size + 1, .u8, 16, b), (w.heap.size, .u8, 16, a)] [] w') (by kernel_rfl) K.drew ?_
      clear K
      intro K
      generalize wr.drew = w1 at K ⊢
      refine pureH (i := 0) (some 10) rfl (.int .u8 d) rfl rfl (fun _ => by kernel_rfl) (by kernel_rfl) (by kernel_rfl) (by kernel_rfl) (fun _ _ _ h => h) K ?_
      simp only [Act.put, List.setIfInBounds_toArray, List.set_cons_zero, List.set_cons_succ]
      refine pureH (i := 1) (some 11) rfl (.int .i64 (m : Int)) rfl rfl (fun _ => by kernel_rfl) (by kernel_rfl) (by kernel_rfl) (by kernel_rfl) (fun _ _ _ h => h) K ?_
      simp only [Act.put, List.setIfInBounds_toArray, List.set_cons_zero, List.set_cons_succ]
      refine pureH (i := 2) (some 12) rfl (.pointer (some ⟨w.heap.size, m, none⟩)) rfl rfl (fun w' => idxTag (w.heap.size) m hlt w' _ _ rfl rfl rfl) (by kernel_rfl) (by kernel_rfl) (by kernel_rfl) (fun _ _ _ h => h) K ?_
      simp only [Act.put, List.setIfInBounds_toArray, List.set_cons_zero, List.set_cons_succ]
      refine cellH (i := 3) (some 13) rfl .u8 (.int .u8 (a m)) (w.heap.size) m 5 _ rfl rfl rfl rfl (by kernel_rfl) (by kernel_rfl) (by kernel_rfl) (fun _ _ _ h => h) Tryd.underlying5 K (fun _ h => (h.get _ _ _ _ (List.mem_cons_of_mem _ List.mem_cons_self)).cell m hlt) ?_
      simp only [Act.put, List.setIfInBounds_toArray, List.set_cons_zero, List.set_cons_succ]
      refine pureH (i := 4) (some 14) rfl (.int .i64 (m : Int)) rfl rfl (fun _ => by kernel_rfl) (by kernel_rfl) (by kernel_rfl) (by kernel_rfl) (fun _ _ _ h => h) K ?_
      simp only [Act.put, List.setIfInBounds_toArray, List.set_cons_zero, List.set_cons_succ]
      refine pureH (i := 5) (some 15) rfl (.pointer (some ⟨w.heap.size + 1, m, none⟩)) rfl rfl (fun w' => idxTag (w.heap.size + 1) m hlt w' _ _ rfl rfl rfl) (by kernel_rfl) (by kernel_rfl) (by kernel_rfl) (fun _ _ _ h => h) K ?_
      simp only [Act.put, List.setIfInBounds_toArray, List.set_cons_zero, List.set_cons_succ]
      refine cellH (i := 6) (some 16) rfl .u8 (.int .u8 (b m)) (w.heap.size + 1) m 5 _ rfl rfl rfl rfl (by kernel_rfl) (by kernel_rfl) (by kernel_rfl) (fun _ _ _ h => h) Tryd.underlying5 K (fun _ h => (h.get _ _ _ _ List.mem_cons_self).cell m hlt) ?_
      simp only [Act.put, List.setIfInBounds_toArray, List.set_cons_zero, List.set_cons_succ]
      refine pureH (i := 7) (some 17) rfl (.int .u8 (bits .xor .u8 (a m) (b m))) rfl rfl (fun w => xorI .u8 _ _ _ _ _ _ _ rfl rfl rfl rfl w) (by kernel_rfl) (by kernel_rfl) (by kernel_rfl) (fun _ _ _ h => h) K ?_
      simp only [Act.put, List.setIfInBounds_toArray, List.set_cons_zero, List.set_cons_succ]
      refine pureH (i := 8) (some 18) rfl (.int .u8 (bits .or .u8 d (bits .xor .u8 (a m) (b m)))) rfl rfl (fun w => orI .u8 _ _ _ _ _ _ _ rfl rfl rfl rfl w) (by kernel_rfl) (by kernel_rfl) (by kernel_rfl) (fun _ _ _ h => h) K ?_
      simp only [Act.put, List.setIfInBounds_toArray, List.set_cons_zero, List.set_cons_succ]
      refine pureH (i := 9) (some 5) rfl (.int .u8 (bits .or .u8 d (bits .xor .u8 (a m) (b m)))) rfl rfl (fun _ => by kernel_rfl) (by kernel_rfl) (by kernel_rfl) (by kernel_rfl) (fun _ _ _ h => h) K ?_
      simp only [Act.put, List.setIfInBounds_toArray, List.set_cons_zero, List.set_cons_succ]
      refine wpAnyH_done (by kernel_rfl) ?_ _
      have ho := or_byte d (a m) (b m) hd (ha m hlt) (hb m hlt)
      have HS := show Hid _ from (And.intro K (And.intro ho.1 (show bits .or .u8 d (bits .xor .u8 (a m) (b m)) = 0 ↔ ∀ j, j < m + 1 → a j = b j from by
        rw [ho.2, hz]
        constructor
        · intro h j hj
          by_cases e : j = m
          · subst e; exact h.2
          · exact h.1 j (by omega)
        · intro h
          exact ⟨fun j hj => h j (by omega), h m (by omega)⟩)))
      clear K hz ho
      generalize bits .or .u8 d (bits .xor .u8 (a m) (b m)) = d2 at HS ⊢
      go_wp2
      go_roundw
      case rel => first | exact ⟨m + 1, d2, by omega, by go_num, rfl, HS.out⟩ | ((repeat apply Exists.intro); refine ⟨⟨m + 1, d2, by omega, by go_num, rfl, HS.out⟩, rfl⟩)
      case measure => simp [intOf]; omega
    · obtain rfl : m = 16 := by omega
      clear hlt hm g1
      have hr := same_iff a b ha hb d hz
      have hB := K.below
      clear K hz
      go_upto_region 7 with fail
      refine wp_region_list ?_
      refine pureL (.int .u8 d) rfl (fun _ => by kernel_rfl) ?_
      simp only [Act.put, List.setIfInBounds_toArray, List.set_cons_zero, List.set_cons_succ]
      refine pureL (.bool (decide (val 256 a 16 = val 256 b 16))) rfl (fun w => eqlI .u8 _ _ _ _ _ _ rfl rfl rfl _ hr w) ?_
      simp only [Act.put, List.setIfInBounds_toArray, List.set_cons_zero, List.set_cons_succ]
      refine pureL (.bool (decide (val 256 a 16 = val 256 b 16))) rfl (fun _ => by kernel_rfl) ?_
      simp only [Act.put, List.setIfInBounds_toArray, List.set_cons_zero, List.set_cons_succ]
      show Exit.then _ _ _ _ _
      go_wp2
      go_ret
      exact ⟨rfl, hB⟩
end Go.Proofs.YtnphoennagmiaaaDoor
