/- What the statement's function answers, whatever the bytes: true. -/
import Derived.Test.YthpcbijeahcpmabDoorShown3
import Derived.Test.YthpcbijeahcpmabDoorCz
import Derived.Deep.QuietTactic
import Derived.BigQuiet
namespace Go.Proofs.YthpcbijeahcpmabDoor
open Go.RowKit

set_option maxRecDepth 10000 in
set_option maxHeartbeats 4000000 in
theorem law_ClampWhole (a s : Nat → Int) (ha : In 256 17 a) (hs : In 256 16 s) (w : World) (hg : Glob w) :
    Calls Tryd.prog 6 #[(.agg (row .u8 17 (a)).toArray), (.agg (row .u8 16 (s)).toArray)] w fun e w' => e = .returned (.bool true) ∧ Below w.heap.size w w' := by
  have K := Kr.init w
  replace K := K.box .u8 17 a 23 (w.heap.size) rfl
  replace K := K.box .u8 16 s 30 (w.heap.size + 1) (by simp)
  go_enter Tryd.func6, Tryd.ntmps6
  go_upto_region 1 with fail
  refine wp_region_list ?_
  refine callL rfl (fun _ => by kernel_rfl) (shown_any _ (hg.below K.below hg.size)) ?_
  rintro e w1 ⟨rfl, l⟩
  replace K := K.call l
  clear l
  refine ⟨_, rfl, ?_⟩
  simp only [Act.put, List.setIfInBounds_toArray, List.set_cons_zero, List.set_cons_succ]
  refine pureL (.bool true) rfl (fun _ => by kernel_rfl) ?_
  simp only [Act.put, List.setIfInBounds_toArray, List.set_cons_zero, List.set_cons_succ]
  first | show Exit.then _ _ _ _ _ | show Exit.inBlock _ _ _ _ _
  go_upto_region 2 with fail
  refine wp_region_list ?_
  refine rowKL .u8 17 (a) (w.heap.size) 0 23 _ _ rfl rfl rfl Tryd.underlying23 rfl (big_info _) (K.get _ _ _ _ (List.mem_cons_of_mem _ List.mem_cons_self)).range ?_
  simp only [Act.put, List.setIfInBounds_toArray, List.set_cons_zero, List.set_cons_succ]
  refine callL rfl (fun _ => by kernel_rfl) (ccanon_any (a) (ha) _ (hg.below K.below hg.size)) ?_
  rintro e w2 ⟨f1, rfl, s1, l⟩
  replace K := K.call l
  clear l
  refine ⟨_, rfl, ?_⟩
  simp only [Act.put, List.setIfInBounds_toArray, List.set_cons_zero, List.set_cons_succ]
  refine allocL #[.int .u8 0, .int .u8 0, .int .u8 0, .int .u8 0, .int .u8 0, .int .u8 0, .int .u8 0, .int .u8 0, .int .u8 0, .int .u8 0, .int .u8 0, .int .u8 0, .int .u8 0, .int .u8 0, .int .u8 0, .int .u8 0, .int .u8 0] 23 rfl (fun _ => by kernel_rfl) ?_
  simp only [Act.put, List.setIfInBounds_toArray, List.set_cons_zero, List.set_cons_succ]
  refine storesL .u8 17 (f1) (w2.heap.size) 23 _ _ rfl rfl rfl rfl (room_of (big_zero _ _ _ rfl).there) (big_info' _) ?_
  simp only [Act.put]
  have z1 := K.size
  replace K := K.fresh .u8 17 (f1) #[.int .u8 0, .int .u8 0, .int .u8 0, .int .u8 0, .int .u8 0, .int .u8 0, .int .u8 0, .int .u8 0, .int .u8 0, .int .u8 0, .int .u8 0, .int .u8 0, .int .u8 0, .int .u8 0, .int .u8 0, .int .u8 0, .int .u8 0] 23 (big_zero _ _ _ rfl).there
  generalize ((w2.alloc (.cells #[.int .u8 0, .int .u8 0, .int .u8 0, .int .u8 0, .int .u8 0, .int .u8 0, .int .u8 0, .int .u8 0, .int .u8 0, .int .u8 0, .int .u8 0, .int .u8 0, .int .u8 0, .int .u8 0, .int .u8 0, .int .u8 0, .int .u8 0] 23)).setCells w2.heap.size 0 (row .u8 17 (f1))) = w3 at K ⊢
  generalize w2.heap.size = B1 at *
  first | show Exit.then _ _ _ _ _ | show Exit.inBlock _ _ _ _ _
  go_upto_region 3 with fail
  refine wp_region_list ?_
  refine rowKL .u8 17 (a) (w.heap.size) 0 23 _ _ rfl rfl rfl Tryd.underlying23 rfl (big_info _) (K.get _ _ _ _ (List.mem_cons_of_mem _ (List.mem_cons_of_mem _ List.mem_cons_self))).range ?_
  simp only [Act.put, List.setIfInBounds_toArray, List.set_cons_zero, List.set_cons_succ]
  refine pureL (.agg (row .u8 16 (bl [])).toArray) rfl (fun _ => by kernel_rfl) ?_
  simp only [Act.put, List.setIfInBounds_toArray, List.set_cons_zero, List.set_cons_succ]
  refine callL rfl (fun _ => by kernel_rfl) (clow_any (a) (bl []) (ha) (bl_in [] _ (by decide)) _ (hg.below K.below hg.size)) ?_
  rintro e w4 ⟨f2, rfl, s2, l⟩
  replace K := K.call l
  clear l
  refine ⟨_, rfl, ?_⟩
  simp only [Act.put, List.setIfInBounds_toArray, List.set_cons_zero, List.set_cons_succ]
  refine allocL #[.int .u8 0, .int .u8 0, .int .u8 0, .int .u8 0, .int .u8 0, .int .u8 0, .int .u8 0, .int .u8 0, .int .u8 0, .int .u8 0, .int .u8 0, .int .u8 0, .int .u8 0, .int .u8 0, .int .u8 0, .int .u8 0] 30 rfl (fun _ => by kernel_rfl) ?_
  simp only [Act.put, List.setIfInBounds_toArray, List.set_cons_zero, List.set_cons_succ]
  refine storesL .u8 16 (f2) (w4.heap.size) 30 _ _ rfl rfl rfl rfl (room_of (tag_zero _ _ _ rfl).there) (tag_info' _) ?_
  simp only [Act.put]
  have z2 := K.size
  replace K := K.fresh .u8 16 (f2) #[.int .u8 0, .int .u8 0, .int .u8 0, .int .u8 0, .int .u8 0, .int .u8 0, .int .u8 0, .int .u8 0, .int .u8 0, .int .u8 0, .int .u8 0, .int .u8 0, .int .u8 0, .int .u8 0, .int .u8 0, .int .u8 0] 30 (tag_zero _ _ _ rfl).there
  generalize ((w4.alloc (.cells #[.int .u8 0, .int .u8 0, .int .u8 0, .int .u8 0, .int .u8 0, .int .u8 0, .int .u8 0, .int .u8 0, .int .u8 0, .int .u8 0, .int .u8 0, .int .u8 0, .int .u8 0, .int .u8 0, .int .u8 0, .int .u8 0] 30)).setCells w4.heap.size 0 (row .u8 16 (f2))) = w5 at K ⊢
  generalize w4.heap.size = B2 at *
  first | show Exit.then _ _ _ _ _ | show Exit.inBlock _ _ _ _ _
  have hlow : ∀ j, j < 16 → f2 j = f1 j := val_inj 256 (by decide) _ _ 16 s2.1 (fun j hj => s1.1 j (by omega)) (by rw [s2.2, low_val _ s1.1, s1.2, show val 256 (bl []) 16 = 0 from by decide +kernel, Int.add_zero])
  have HL := show Hid _ from hlow
  clear hlow
  have H1 := show Hid _ from s1
  clear s1 s2
  go_wp2
  go_loopw [8] (fun i w' => ∃ k : Nat, k ≤ 16 ∧ i = .int .i64 k ∧ Kr w (B2 + 1) [(B2, .u8, 16, f2), (B1, .u8, 17, f1), (w.heap.size + 1, .u8, 16, s), (w.heap.size, .u8, 17, a)] [] w') (fun i _ => 16 - (intOf i).toNat)
  case atStart => exact ⟨0, by omega, rfl, K⟩
  case round =>
    obtain ⟨k, hk, rfl, hI⟩ := hrel
    clear K
    by_cases hlt : k < 16
    · have c1 := (hI.get _ _ _ _ (List.mem_cons_of_mem _ List.mem_cons_self)).cell k (by omega)
      have c2 := (hI.get _ _ _ _ List.mem_cons_self).cell k (by omega)
      rw [HL.out k hlt] at c2
      have g1 : (0 : Int) ≤ (k : Int) := by omega
      have g2 : (k : Int) < 16 := by omega
      have g3 : (k : Int) < 17 := by omega
      have HI := show Hid _ from hI
      clear hI
      generalize f1 k = x at *
      have hne : (x != x) = false := by simp
      go_wp2
      go_quiet (fail)
      go_wp2
      go_roundw
      case rel => exact ⟨k + 1, by omega, by go_num, HI.out.drewN⟩
      case measure => simp [intOf]; omega
    · obtain rfl : k = 16 := by omega
      have K := hI
      clear hI hlt hk HL
      go_upto_region 10 with fail
      refine wp_region_list ?_
      refine rowKL .u8 17 (a) (w.heap.size) 0 23 _ _ rfl rfl rfl Tryd.underlying23 rfl (big_info _) (K.get _ _ _ _ (List.mem_cons_of_mem _ (List.mem_cons_of_mem _ (List.mem_cons_of_mem _ List.mem_cons_self)))).range ?_
      simp only [Act.put, List.setIfInBounds_toArray, List.set_cons_zero, List.set_cons_succ]
      refine rowKL .u8 16 (s) (w.heap.size + 1) 0 30 _ _ rfl rfl rfl Tryd.underlying30 rfl (tag_info _) (K.get _ _ _ _ (List.mem_cons_of_mem _ (List.mem_cons_of_mem _ List.mem_cons_self))).range ?_
      simp only [Act.put, List.setIfInBounds_toArray, List.set_cons_zero, List.set_cons_succ]
      refine callL rfl (fun _ => by kernel_rfl) (clow_any (a) (s) (ha) (hs) _ (hg.below K.below hg.size)) ?_
      rintro e w6 ⟨f3, rfl, s3, l⟩
      replace K := K.call l
      clear l
      refine ⟨_, rfl, ?_⟩
      simp only [Act.put, List.setIfInBounds_toArray, List.set_cons_zero, List.set_cons_succ]
      refine allocL #[.int .u8 0, .int .u8 0, .int .u8 0, .int .u8 0, .int .u8 0, .int .u8 0, .int .u8 0, .int .u8 0, .int .u8 0, .int .u8 0, .int .u8 0, .int .u8 0, .int .u8 0, .int .u8 0, .int .u8 0, .int .u8 0] 30 rfl (fun _ => by kernel_rfl) ?_
      simp only [Act.put, List.setIfInBounds_toArray, List.set_cons_zero, List.set_cons_succ]
      refine storesL .u8 16 (f3) (w6.heap.size) 30 _ _ rfl rfl rfl rfl (room_of (tag_zero _ _ _ rfl).there) (tag_info' _) ?_
      simp only [Act.put]
      have z3 := K.size
      replace K := K.fresh .u8 16 (f3) #[.int .u8 0, .int .u8 0, .int .u8 0, .int .u8 0, .int .u8 0, .int .u8 0, .int .u8 0, .int .u8 0, .int .u8 0, .int .u8 0, .int .u8 0, .int .u8 0, .int .u8 0, .int .u8 0, .int .u8 0, .int .u8 0] 30 (tag_zero _ _ _ rfl).there
      generalize ((w6.alloc (.cells #[.int .u8 0, .int .u8 0, .int .u8 0, .int .u8 0, .int .u8 0, .int .u8 0, .int .u8 0, .int .u8 0, .int .u8 0, .int .u8 0, .int .u8 0, .int .u8 0, .int .u8 0, .int .u8 0, .int .u8 0, .int .u8 0] 30)).setCells w6.heap.size 0 (row .u8 16 (f3))) = w7 at K ⊢
      generalize w6.heap.size = B3 at *
      first | show Exit.then _ _ _ _ _ | show Exit.inBlock _ _ _ _ _
      have hsum := low_summ (x := f1) (s := s) s3.1 (by rw [s3.2, low_val _ H1.out.1, H1.out.2]; omega)
      have hcr := carr_in f1 s 16 (fun j hj => H1.out.1 j (by omega)) hs
      have hx := fun j (hj : j < 16) => H1.out.1 j (by omega)
      have HS := show Hid _ from hsum
      have HC := show Hid _ from hcr
      have HX := show Hid _ from And.intro hx hs
      clear hsum hcr hx s3 H1
      go_wp2
      obtain ⟨wo, rfl⟩ : ∃ wo : World, wo = w7 := ⟨_, rfl⟩
      go_loopw [9, 11] (fun r i w' => ∃ k : Nat, k ≤ 16 ∧ i = .int .i64 k ∧ r = .int .i64 (carr f1 s k) ∧ Kr w (B3 + 1) [(B3, .u8, 16, f3), (B2, .u8, 16, f2), (B1, .u8, 17, f1), (w.heap.size + 1, .u8, 16, s), (w.heap.size, .u8, 17, a)] [] w') (fun _ i _ => 16 - (intOf i).toNat)
      case atStart => exact ⟨0, by omega, rfl, rfl, K⟩
      case round =>
        obtain ⟨k, hk, rfl, rfl, hI⟩ := hrel
        clear K
        by_cases hlt : k < 16
        · have c1 := (hI.get _ _ _ _ (List.mem_cons_of_mem _ (List.mem_cons_of_mem _ List.mem_cons_self))).cell k (by omega)
          have c2 := (hI.get _ _ _ _ (List.mem_cons_of_mem _ (List.mem_cons_of_mem _ (List.mem_cons_of_mem _ List.mem_cons_self)))).cell k (by omega)
          have c3 := (hI.get _ _ _ _ List.mem_cons_self).cell k (by omega)
          rw [HS.out k hlt] at c3
          obtain ⟨r0, r1⟩ := HC.out k (by omega)
          obtain ⟨x0, x1⟩ := HX.out.1 k hlt
          obtain ⟨y0, y1⟩ := HX.out.2 k hlt
          have g1 : (0 : Int) ≤ (k : Int) := by omega
          have g2 : (k : Int) < 16 := by omega
          have g3 : (k : Int) < 17 := by omega
          have HI := show Hid _ from hI
          clear hI
          have HN := show Hid (carr f1 s (k + 1) = (carr f1 s k + f1 k + s k) / 256) from rfl
          unfold summ at c3
          generalize carr f1 s k = r at *
          generalize f1 k = x at *
          generalize s k = y at *
          have v1 : IntKind.i64.wrap (r + x) = r + x := by rw [IntKind.wrap_i64]; omega
          have v2 : IntKind.i64.wrap (r + x + y) = r + x + y := by rw [IntKind.wrap_i64]; omega
          have hne : ((r + x + y) % 256 != (r + x + y) % 256) = false := by simp
          go_wp2
          go_quiet (fail)
          go_wp2
          go_roundw
          case rel => exact ⟨k + 1, by omega, by go_num, by rw [HN.out], HI.out.drewN⟩
          case measure => simp [intOf]; omega
        · obtain rfl : k = 16 := by omega
          go_wp2
          go_ret
          exact ⟨rfl, hI.below⟩

end Go.Proofs.YthpcbijeahcpmabDoor
