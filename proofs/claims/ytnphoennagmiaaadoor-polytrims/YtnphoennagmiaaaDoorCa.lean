/- What load, save, Canon, Add, Mul of the clamp layer answer. -/
import Derived.Test.YtnphoennagmiaaaDoorCs
import Derived.Test.YtnphoennagmiaaaDoorCp
namespace Go.Proofs.YtnphoennagmiaaaDoor
open Go.RowKit

set_option maxHeartbeats 2000000 in
theorem cload_any (a : Nat → Int) (ha : In 256 17 a) (w : World) :
    Calls Tryd.prog 28 #[(.agg (row .u8 17 (a)).toArray)] w fun e w' => ∃ m : Nat → Int, e = .returned (.agg (row .u64 3 (m)).toArray) ∧ (Folded m ∧ val W m 3 % Q = val 256 a 17 % Q) ∧ Below w.heap.size w w' := by
  have K := Kr.init w
  replace K := K.box .u8 17 a 33 (w.heap.size) rfl
  replace K := K.make 3 #[.int .u64 0, .int .u64 0, .int .u64 0] 49 (w.heap.size + 1) (by simp) (cnum_zero _ _ _ (by simp)).there
  go_enter Tryd.func28, Tryd.ntmps28
  go_upto_region 1 with fail
  refine wp_region_list ?_
  refine rowKL .u8 17 (a) (w.heap.size) 0 33 _ _ rfl rfl rfl Tryd.underlying33 rfl (big_info _) (K.get _ _ _ _ List.mem_cons_self).range ?_
  simp only [Act.put, List.setIfInBounds_toArray, List.set_cons_zero, List.set_cons_succ]
  refine callL rfl (fun _ => by kernel_rfl) (split_any a ha _) ?_
  rintro e w1 ⟨m1, rfl, s1, l⟩
  replace K := K.call l
  clear l
  refine ⟨_, rfl, ?_⟩
  simp only [Act.put, List.setIfInBounds_toArray, List.set_cons_zero, List.set_cons_succ]
  refine callL rfl (fun _ => by kernel_rfl) (cfold_any m1 s1.1 (by have := s1.2.1; omega) _) ?_
  rintro e w2 ⟨m, rfl, s2, l⟩
  replace K := K.call l
  clear l
  refine ⟨_, rfl, ?_⟩
  simp only [Act.put, List.setIfInBounds_toArray, List.set_cons_zero, List.set_cons_succ]
  refine storesL .u64 3 m (w.heap.size + 1) 49 _ _ rfl rfl rfl rfl (K.roomy _ _ _ _ List.mem_cons_self) (cnum_info' _) ?_
  simp only [Act.put]
  have HE := show Hid _ from (And.intro s2.1 (show val W m 3 % Q = val 256 a 17 % Q by rw [s2.2, s1.2.2]))
  have hz := (K.room _ List.mem_cons_self).1
  have hB := (K.fill _ _ List.mem_cons_self (row .u64 3 m)).below
  clear K s1 s2
  show Exit.then _ _ _ _ _
  go_wp2
  exact bodyPost_ret (v := (.agg (row .u64 3 (m)).toArray)) (results_row Tryd.results28 rfl (Has.all hz .u64 m).range Tryd.underlying49 rfl (cnum_info m)) rfl ⟨m, rfl, HE.out, hB⟩

theorem small136 (x : Int) : x % Q % 87112285931760246646623899502532662132736 = x % Q := by simp only [Q]; omega

set_option maxHeartbeats 2000000 in
theorem csave_any (n : Nat → Int) (hn : Folded n) (w : World) (hg : Glob w) :
    Calls Tryd.prog 26 #[(.agg (row .u64 3 (n)).toArray)] w fun e w' => ∃ f : Nat → Int, e = .returned (.agg (row .u8 17 (f)).toArray) ∧ (In 256 17 f ∧ val 256 f 17 = val W n 3 % Q) ∧ Below w.heap.size w w' := by
  have K := Kr.init w
  replace K := K.box .u64 3 n 49 (w.heap.size) rfl
  replace K := K.make 17 #[.int .u8 0, .int .u8 0, .int .u8 0, .int .u8 0, .int .u8 0, .int .u8 0, .int .u8 0, .int .u8 0, .int .u8 0, .int .u8 0, .int .u8 0, .int .u8 0, .int .u8 0, .int .u8 0, .int .u8 0, .int .u8 0, .int .u8 0] 33 (w.heap.size + 1) (by simp) (big_zero _ _ _ (by simp)).there
  go_enter Tryd.func26, Tryd.ntmps26
  go_upto_region 1 with fail
  refine wp_region_list ?_
  refine rowKL .u64 3 (n) (w.heap.size) 0 49 _ _ rfl rfl rfl Tryd.underlying49 rfl (cnum_info _) (K.get _ _ _ _ List.mem_cons_self).range ?_
  simp only [Act.put, List.setIfInBounds_toArray, List.set_cons_zero, List.set_cons_succ]
  refine callL rfl (fun _ => by kernel_rfl) (cleast_any n hn.1 hn.2 _ (hg.below K.below hg.size)) ?_
  rintro e w1 ⟨m1, rfl, s1, l⟩
  replace K := K.call l
  clear l
  refine ⟨_, rfl, ?_⟩
  simp only [Act.put, List.setIfInBounds_toArray, List.set_cons_zero, List.set_cons_succ]
  refine callL rfl (fun _ => by kernel_rfl) (join_any m1 _) ?_
  rintro e w2 ⟨rfl, l⟩
  replace K := K.call l
  clear l
  refine ⟨_, rfl, ?_⟩
  simp only [Act.put, List.setIfInBounds_toArray, List.set_cons_zero, List.set_cons_succ]
  have s2 : In 256 17 (joinB m1) ∧ val 256 (joinB m1) 17 = val W n 3 % Q := ⟨joinB_in m1, by rw [joinB_val m1 s1.1, s1.2, small136]⟩
  generalize joinB m1 = f at *
  refine storesL .u8 17 f (w.heap.size + 1) 33 _ _ rfl rfl rfl rfl (K.roomy _ _ _ _ List.mem_cons_self) (big_info' _) ?_
  simp only [Act.put]
  have HE := show Hid _ from s2
  have hz := (K.room _ List.mem_cons_self).1
  have hB := (K.fill _ _ List.mem_cons_self (row .u8 17 f)).below
  clear K s1 s2
  show Exit.then _ _ _ _ _
  go_wp2
  exact bodyPost_ret (v := (.agg (row .u8 17 (f)).toArray)) (results_row Tryd.results26 rfl (Has.all hz .u8 f).range Tryd.underlying33 rfl (big_info f)) rfl ⟨f, rfl, HE.out, hB⟩


theorem folded_small {n : Nat → Int} (h : Folded n) : 0 ≤ val W n 3 ∧ val W n 3 ≤ FB := ⟨(val_in W (by decide) n 3 h.1).1, h.2⟩
theorem top_small {n : Nat → Int} (h : In W 3 n) (hv : val W n 3 < 174224571863520493293247799005065324265472) : n 2 < 512 := by
  have v := v3 n
  have p0 := h 0 (by omega)
  have p1 := h 1 (by omega)
  generalize n 0 = x0 at *
  generalize n 1 = x1 at *
  generalize n 2 = x2 at *
  omega


set_option maxHeartbeats 2000000 in
theorem cadd_any (a b : Nat → Int) (ha : In 256 17 a) (hb : In 256 17 b) (w : World) (hg : Glob w) :
    Calls Tryd.prog 19 #[(.agg (row .u8 17 (a)).toArray), (.agg (row .u8 17 (b)).toArray)] w fun e w' => ∃ f : Nat → Int, e = .returned (.agg (row .u8 17 (f)).toArray) ∧ (In 256 17 f ∧ val 256 f 17 = (val 256 a 17 + val 256 b 17) % Q) ∧ Below w.heap.size w w' := by
  have K := Kr.init w
  replace K := K.box .u8 17 a 33 (w.heap.size) rfl
  replace K := K.box .u8 17 b 33 (w.heap.size + 1) (by simp)
  replace K := K.make 17 #[.int .u8 0, .int .u8 0, .int .u8 0, .int .u8 0, .int .u8 0, .int .u8 0, .int .u8 0, .int .u8 0, .int .u8 0, .int .u8 0, .int .u8 0, .int .u8 0, .int .u8 0, .int .u8 0, .int .u8 0, .int .u8 0, .int .u8 0] 33 (w.heap.size + 1 + 1) (by simp) (big_zero _ _ _ (by simp)).there
  go_enter Tryd.func19, Tryd.ntmps19
  go_upto_region 1 with fail
  refine wp_region_held_drew (S := fun w' => Kr w _ [(w.heap.size + 1, .u8, 17, b), (w.heap.size, .u8, 17, a)] [(w.heap.size + 1 + 1, 17)] w') (by kernel_rfl) K.drew ?_
  clear K
  intro K
  refine rowKH (i := 0) (some 5) rfl .u8 17 (a) (w.heap.size) 0 33 _ _ rfl rfl rfl rfl (by kernel_rfl) (by kernel_rfl) (by kernel_rfl) (fun _ _ _ h => h) Tryd.underlying33 rfl (big_info _) K (fun _ h => (h.get _ _ _ _ (List.mem_cons_of_mem _ List.mem_cons_self)).range) ?_
  simp only [Act.put, List.setIfInBounds_toArray, List.set_cons_zero, List.set_cons_succ]
  refine rowKH (i := 2) (some 7) rfl .u8 17 (b) (w.heap.size + 1) 0 33 _ _ rfl rfl rfl rfl (by kernel_rfl) (by kernel_rfl) (by kernel_rfl) (fun _ _ _ h => h) Tryd.underlying33 rfl (big_info _) K (fun _ h => (h.get _ _ _ _ List.mem_cons_self).range) ?_
  simp only [Act.put, List.setIfInBounds_toArray, List.set_cons_zero, List.set_cons_succ]
  refine callH (i := 1) (some 6) rfl (by kernel_rfl) rfl rfl (fun _ => by kernel_rfl) (cload_any a ha _) ?_
  rintro e w1 ⟨m1, rfl, s1, l⟩
  replace K := K.call l
  clear l
  refine ⟨_, rfl, K, ?_⟩
  simp only [Act.put, List.setIfInBounds_toArray, List.set_cons_zero, List.set_cons_succ]
  refine callH (i := 3) (some 8) rfl (by kernel_rfl) rfl rfl (fun _ => by kernel_rfl) (cload_any b hb _) ?_
  rintro e w2 ⟨m2, rfl, s2, l⟩
  replace K := K.call l
  clear l
  refine ⟨_, rfl, K, ?_⟩
  simp only [Act.put, List.setIfInBounds_toArray, List.set_cons_zero, List.set_cons_succ]
  have z1 := folded_small s1.1
  have z2 := folded_small s2.1
  simp only [FB] at z1 z2
  refine callH (i := 4) (some 9) rfl (by kernel_rfl) rfl rfl (fun _ => by kernel_rfl) (plus_any m1 m2 s1.1.1 s2.1.1 (by rw [W3]; omega) _) ?_
  rintro e w3 ⟨m3, rfl, s3, l⟩
  replace K := K.call l
  clear l
  refine ⟨_, rfl, K, ?_⟩
  simp only [Act.put, List.setIfInBounds_toArray, List.set_cons_zero, List.set_cons_succ]
  refine callH (i := 5) (some 10) rfl (by kernel_rfl) rfl rfl (fun _ => by kernel_rfl) (cfold_any m3 s3.1 (top_small s3.1 (by have := s3.2; omega)) _) ?_
  rintro e w4 ⟨m4, rfl, s4, l⟩
  replace K := K.call l
  clear l
  refine ⟨_, rfl, K, ?_⟩
  simp only [Act.put, List.setIfInBounds_toArray, List.set_cons_zero, List.set_cons_succ]
  refine callH (i := 6) (some 11) rfl (by kernel_rfl) rfl rfl (fun _ => by kernel_rfl) (csave_any m4 s4.1 _ (hg.below K.below hg.size)) ?_
  rintro e w5 ⟨f, rfl, s5, l⟩
  replace K := K.call l
  clear l
  refine ⟨_, rfl, K, ?_⟩
  simp only [Act.put, List.setIfInBounds_toArray, List.set_cons_zero, List.set_cons_succ]
  refine storesH (i := 7) none rfl .u8 17 f (w.heap.size + 1 + 1) 33 _ _ (by kernel_rfl) rfl rfl rfl rfl rfl (K.roomy _ _ _ _ List.mem_cons_self) (big_info' _) (K.fill _ _ List.mem_cons_self _) ?_
  refine wpAnyH_done (by kernel_rfl) ?_ _
  have HE := show Hid _ from (And.intro s5.1 (show val 256 f 17 = (val 256 a 17 + val 256 b 17) % Q by rw [s5.2, s4.2, s3.2, Int.add_emod, s1.2, s2.2, ← Int.add_emod]))
  have hz := (K.room _ List.mem_cons_self).1
  have hB := (K.fill _ _ List.mem_cons_self (row .u8 17 f)).below
  clear K s1 s2 s3 s4 s5 z1 z2
  go_wp2
  exact bodyPost_ret (v := (.agg (row .u8 17 (f)).toArray)) (results_row Tryd.results19 rfl (Has.all hz .u8 f).range Tryd.underlying33 rfl (big_info f)) rfl ⟨f, rfl, HE.out, hB⟩

set_option maxHeartbeats 2000000 in
theorem cmul_any (a b : Nat → Int) (ha : In 256 17 a) (hb : In 256 17 b) (w : World) (hg : Glob w) :
    Calls Tryd.prog 18 #[(.agg (row .u8 17 (a)).toArray), (.agg (row .u8 17 (b)).toArray)] w fun e w' => ∃ f : Nat → Int, e = .returned (.agg (row .u8 17 (f)).toArray) ∧ (In 256 17 f ∧ val 256 f 17 = (val 256 a 17 * val 256 b 17) % Q) ∧ Below w.heap.size w w' := by
  have K := Kr.init w
  replace K := K.box .u8 17 a 33 (w.heap.size) rfl
  replace K := K.box .u8 17 b 33 (w.heap.size + 1) (by simp)
  replace K := K.make 17 #[.int .u8 0, .int .u8 0, .int .u8 0, .int .u8 0, .int .u8 0, .int .u8 0, .int .u8 0, .int .u8 0, .int .u8 0, .int .u8 0, .int .u8 0, .int .u8 0, .int .u8 0, .int .u8 0, .int .u8 0, .int .u8 0, .int .u8 0] 33 (w.heap.size + 1 + 1) (by simp) (big_zero _ _ _ (by simp)).there
  go_enter Tryd.func18, Tryd.ntmps18
  go_upto_region 1 with fail
  refine wp_region_held_drew (S := fun w' => Kr w _ [(w.heap.size + 1, .u8, 17, b), (w.heap.size, .u8, 17, a)] [(w.heap.size + 1 + 1, 17)] w') (by kernel_rfl) K.drew ?_
  clear K
  intro K
  refine rowKH (i := 0) (some 5) rfl .u8 17 (a) (w.heap.size) 0 33 _ _ rfl rfl rfl rfl (by kernel_rfl) (by kernel_rfl) (by kernel_rfl) (fun _ _ _ h => h) Tryd.underlying33 rfl (big_info _) K (fun _ h => (h.get _ _ _ _ (List.mem_cons_of_mem _ List.mem_cons_self)).range) ?_
  simp only [Act.put, List.setIfInBounds_toArray, List.set_cons_zero, List.set_cons_succ]
  refine rowKH (i := 2) (some 7) rfl .u8 17 (b) (w.heap.size + 1) 0 33 _ _ rfl rfl rfl rfl (by kernel_rfl) (by kernel_rfl) (by kernel_rfl) (fun _ _ _ h => h) Tryd.underlying33 rfl (big_info _) K (fun _ h => (h.get _ _ _ _ List.mem_cons_self).range) ?_
  simp only [Act.put, List.setIfInBounds_toArray, List.set_cons_zero, List.set_cons_succ]
  refine callH (i := 1) (some 6) rfl (by kernel_rfl) rfl rfl (fun _ => by kernel_rfl) (cload_any a ha _) ?_
  rintro e w1 ⟨m1, rfl, s1, l⟩
  replace K := K.call l
  clear l
  refine ⟨_, rfl, K, ?_⟩
  simp only [Act.put, List.setIfInBounds_toArray, List.set_cons_zero, List.set_cons_succ]
  refine callH (i := 3) (some 8) rfl (by kernel_rfl) rfl rfl (fun _ => by kernel_rfl) (cload_any b hb _) ?_
  rintro e w2 ⟨m2, rfl, s2, l⟩
  replace K := K.call l
  clear l
  refine ⟨_, rfl, K, ?_⟩
  simp only [Act.put, List.setIfInBounds_toArray, List.set_cons_zero, List.set_cons_succ]
  refine callH (i := 4) (some 9) rfl (by kernel_rfl) rfl rfl (fun _ => by kernel_rfl) (cproduct_any m1 m2 s1.1.1 s2.1.1 s1.1.2 s2.1.2 _) ?_
  rintro e w3 ⟨m3, rfl, s3, l⟩
  replace K := K.call l
  clear l
  refine ⟨_, rfl, K, ?_⟩
  simp only [Act.put, List.setIfInBounds_toArray, List.set_cons_zero, List.set_cons_succ]
  refine callH (i := 5) (some 10) rfl (by kernel_rfl) rfl rfl (fun _ => by kernel_rfl) (csave_any m3 s3.1 _ (hg.below K.below hg.size)) ?_
  rintro e w5 ⟨f, rfl, s5, l⟩
  replace K := K.call l
  clear l
  refine ⟨_, rfl, K, ?_⟩
  simp only [Act.put, List.setIfInBounds_toArray, List.set_cons_zero, List.set_cons_succ]
  refine storesH (i := 6) none rfl .u8 17 f (w.heap.size + 1 + 1) 33 _ _ (by kernel_rfl) rfl rfl rfl rfl rfl (K.roomy _ _ _ _ List.mem_cons_self) (big_info' _) (K.fill _ _ List.mem_cons_self _) ?_
  refine wpAnyH_done (by kernel_rfl) ?_ _
  have HE := show Hid _ from (And.intro s5.1 (show val 256 f 17 = (val 256 a 17 * val 256 b 17) % Q by rw [s5.2, s3.2, Int.mul_emod, s1.2, s2.2, ← Int.mul_emod]))
  have hz := (K.room _ List.mem_cons_self).1
  have hB := (K.fill _ _ List.mem_cons_self (row .u8 17 f)).below
  clear K s1 s2 s3 s5
  go_wp2
  exact bodyPost_ret (v := (.agg (row .u8 17 (f)).toArray)) (results_row Tryd.results18 rfl (Has.all hz .u8 f).range Tryd.underlying33 rfl (big_info f)) rfl ⟨f, rfl, HE.out, hB⟩
end Go.Proofs.YtnphoennagmiaaaDoor
