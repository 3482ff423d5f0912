/- What lower makes of six words. -/
import Derived.Test.YtnphoennagmiaaaDoorCf
import Derived.Test.YtnphoennagmiaaaDoorKr
namespace Go.Proofs.YtnphoennagmiaaaDoor
open Go.RowKit

theorem cwid_info (f : Nat → Int) : (Tryd.prog.info? 53).map (·.size) = some (row .u64 6 f).length := by rw [row_length]; kernel_rfl
theorem mask4 (a : Nat) (ha : a < 2 ^ 64) : a &&& 18446744073709551612 = a - a % 4 := by
  have e1 : (18446744073709551612 : Nat) = (2 ^ 62 - 1) <<< 2 := by decide
  have e2 : a - a % 4 = (a >>> 2) <<< 2 := by rw [Nat.shiftLeft_eq, Nat.shiftRight_eq_div_pow]; omega
  rw [e1, e2]
  refine Nat.eq_of_testBit_eq fun i => ?_
  rw [Nat.testBit_and, Nat.testBit_shiftLeft, Nat.testBit_shiftLeft, Nat.testBit_shiftRight, Nat.testBit_two_pow_sub_one]
  by_cases h : 2 ≤ i
  · rw [show 2 + (i - 2) = i by omega]
    by_cases h2 : i < 64
    · rw [decide_eq_true (show i - 2 < 62 by omega)]; simp [h]
    · rw [Nat.testBit_lt_two_pow (Nat.lt_of_lt_of_le ha (Nat.pow_le_pow_right (by decide) (by omega)))]; simp
  · simp [h]
theorem andnot3 (x : Int) (h0 : 0 ≤ x) (h1 : x < W) : bits BinOp.andNot IntKind.u64 x 3 = x - x % 4 := by
  simp only [W] at h1
  obtain ⟨x, rfl⟩ := Int.eq_ofNat_of_zero_le h0
  have h := mask4 x (by omega)
  rw [show (3 : Int) = ((3 : Nat) : Int) from rfl, u64_andNot_nat x 3 (by omega) (by omega), show (18446744073709551615 - 3 : Nat) = 18446744073709551612 from rfl, h]
  omega
theorem or62 (x y : Int) (hx : 0 ≤ x) (hx' : x < W) (hy : 0 ≤ y) : bits BinOp.or IntKind.u64 (x / 4) (IntKind.u64.wrap (y * 4611686018427387904)) = x / 4 + y % 4 * 4611686018427387904 := by
  have hx2 := hx'
  simp only [W] at hx2
  obtain ⟨x, rfl⟩ := Int.eq_ofNat_of_zero_le hx
  obtain ⟨y, rfl⟩ := Int.eq_ofNat_of_zero_le hy
  have e1 : IntKind.u64.wrap ((y : Int) * 4611686018427387904) = ((2 ^ 62 * (y % 4) : Nat) : Int) := by rw [IntKind.wrap_u64]; omega
  have e2 : (x : Int) / 4 = ((x / 4 : Nat) : Int) := by omega
  have h := Nat.two_pow_add_eq_or_of_lt (i := 62) (b := x / 4) (by omega) (y % 4)
  rw [e1, e2, u64_or_nat (x / 4) (2 ^ 62 * (y % 4)) (by omega) (by omega), Nat.or_comm, ← h]
  omega

set_option maxRecDepth 10000 in
set_option maxHeartbeats 4000000 in
theorem lower_any (d : Nat → Int) (hd : In W 6 d) (hv : val W d 6 ≤ FB * FB) (w : World) :
    Calls Tryd.prog 36 #[(.agg (row .u64 6 (d)).toArray)] w fun e w' => ∃ m : Nat → Int, e = .returned (.agg (row .u64 3 (m)).toArray) ∧ (Folded m ∧ val W m 3 % Q = val W d 6 % Q) ∧ Below w.heap.size w w' := by
  have hL := lower_math hd hv
  have i0 := hd 0 (by omega)
  have i1 := hd 1 (by omega)
  have i2 := hd 2 (by omega)
  have i3 := hd 3 (by omega)
  have i4 := hd 4 (by omega)
  have a2 := and3 (d 2) i2.1 i2.2
  have n2 := andnot3 (d 2) i2.1 i2.2
  have o2 := or62 (d 2) (d 3) i2.1 i2.2 i3.1
  have o3 := or62 (d 3) (d 4) i3.1 i3.2 i4.1
  have HI := show Hid _ from And.intro i0 (And.intro i1 (And.intro i2 (And.intro i3 i4)))
  have HL := show Hid _ from hL
  have K := Kr.init w
  replace K := K.box .u64 6 d 53 w.heap.size rfl
  replace K := K.make 3 #[.int .u64 0, .int .u64 0, .int .u64 0] 49 (w.heap.size + 1) (by simp) (cnum_zero _ _ _ (by simp)).there
  clear hL i0 i1 i2 i3 i4 hd hv
  go_enter Tryd.func36, Tryd.ntmps36
  go_upto_region 1 with fail
  generalize ((w.alloc (.cells (row .u64 6 d).toArray 53)).alloc (.cells #[.int .u64 0, .int .u64 0, .int .u64 0] 49)) = w1 at K ⊢
  have c0 := (K.get _ _ _ _ List.mem_cons_self).cell 0 (by omega)
  have c1 := (K.get _ _ _ _ List.mem_cons_self).cell 1 (by omega)
  have c2 := (K.get _ _ _ _ List.mem_cons_self).cell 2 (by omega)
  have c3 := (K.get _ _ _ _ List.mem_cons_self).cell 3 (by omega)
  have c4 := (K.get _ _ _ _ List.mem_cons_self).cell 4 (by omega)
  have z := cnum_zero w1 49 w1.heap.size rfl
  have s1 := K.size
  go_upto_region 2 with (refine wpList_store_mid rfl 49 _ _ rfl (w1.heap.size) 0 (row .u64 3 (tri (d 0) (d 1) (d 2 % 4))).toArray rfl rfl (cnum_there (z)) (cnum_info' _) (all_oneCell_toArray (row_one _ _ _)) ?_)
  replace K := K.fresh .u64 3 (tri (d 0) (d 1) (d 2 % 4)) #[.int .u64 0, .int .u64 0, .int .u64 0] 49 z.there
  clear c0 c1 c2 c3 c4 z
  generalize ((w1.alloc (.cells #[.int .u64 0, .int .u64 0, .int .u64 0] 49)).setCells w1.heap.size 0 (row .u64 3 (tri (d 0) (d 1) (d 2 % 4)))) = w2 at K ⊢
  generalize w1.heap.size = B1 at *
  clear w1
  have c0 := (K.get _ _ _ _ (List.mem_cons_of_mem _ List.mem_cons_self)).cell 0 (by omega)
  have c1 := (K.get _ _ _ _ (List.mem_cons_of_mem _ List.mem_cons_self)).cell 1 (by omega)
  have c2 := (K.get _ _ _ _ (List.mem_cons_of_mem _ List.mem_cons_self)).cell 2 (by omega)
  have c3 := (K.get _ _ _ _ (List.mem_cons_of_mem _ List.mem_cons_self)).cell 3 (by omega)
  have c4 := (K.get _ _ _ _ (List.mem_cons_of_mem _ List.mem_cons_self)).cell 4 (by omega)
  have z := cnum_zero w2 49 w2.heap.size rfl
  have s2 := K.size
  go_upto_region 3 with (refine wpList_store_mid rfl 49 _ _ rfl (w2.heap.size) 0 (row .u64 3 (tri (d 2 - d 2 % 4) (d 3) (d 4))).toArray rfl rfl (cnum_there (z)) (cnum_info' _) (all_oneCell_toArray (row_one _ _ _)) ?_)
  replace K := K.fresh .u64 3 (tri (d 2 - d 2 % 4) (d 3) (d 4)) #[.int .u64 0, .int .u64 0, .int .u64 0] 49 z.there
  clear c0 c1 c2 c3 c4 z
  generalize ((w2.alloc (.cells #[.int .u64 0, .int .u64 0, .int .u64 0] 49)).setCells w2.heap.size 0 (row .u64 3 (tri (d 2 - d 2 % 4) (d 3) (d 4)))) = w3 at K ⊢
  generalize w2.heap.size = B2 at *
  clear w2
  have c0 := (K.get _ _ _ _ (List.mem_cons_of_mem _ (List.mem_cons_of_mem _ List.mem_cons_self))).cell 0 (by omega)
  have c1 := (K.get _ _ _ _ (List.mem_cons_of_mem _ (List.mem_cons_of_mem _ List.mem_cons_self))).cell 1 (by omega)
  have c2 := (K.get _ _ _ _ (List.mem_cons_of_mem _ (List.mem_cons_of_mem _ List.mem_cons_self))).cell 2 (by omega)
  have c3 := (K.get _ _ _ _ (List.mem_cons_of_mem _ (List.mem_cons_of_mem _ List.mem_cons_self))).cell 3 (by omega)
  have c4 := (K.get _ _ _ _ (List.mem_cons_of_mem _ (List.mem_cons_of_mem _ List.mem_cons_self))).cell 4 (by omega)
  have z := cnum_zero w3 49 w3.heap.size rfl
  have s3 := K.size
  go_upto_region 4 with (refine wpList_store_mid rfl 49 _ _ rfl (w3.heap.size) 0 (row .u64 3 (tri (d 2 / 4 + d 3 % 4 * 4611686018427387904) (d 3 / 4 + d 4 % 4 * 4611686018427387904) (d 4 / 4))).toArray rfl rfl (cnum_there (z)) (cnum_info' _) (all_oneCell_toArray (row_one _ _ _)) ?_)
  replace K := K.fresh .u64 3 (tri (d 2 / 4 + d 3 % 4 * 4611686018427387904) (d 3 / 4 + d 4 % 4 * 4611686018427387904) (d 4 / 4)) #[.int .u64 0, .int .u64 0, .int .u64 0] 49 z.there
  clear c0 c1 c2 c3 c4 z
  generalize ((w3.alloc (.cells #[.int .u64 0, .int .u64 0, .int .u64 0] 49)).setCells w3.heap.size 0 (row .u64 3 (tri (d 2 / 4 + d 3 % 4 * 4611686018427387904) (d 3 / 4 + d 4 % 4 * 4611686018427387904) (d 4 / 4)))) = w4 at K ⊢
  generalize w3.heap.size = B3 at *
  clear w3
  clear a2 n2 o2 o3
  obtain ⟨⟨_, k4, k5⟩, l1, l2, l3, hE⟩ := HL.out
  obtain ⟨i0, i1, i2, i3, i4⟩ := HI.out
  have iA : In W 3 (tri (d 0) (d 1) (d 2 % 4)) := tri_in i0 i1 (by simp only [W]; omega)
  have iB : In W 3 (tri (d 2 - d 2 % 4) (d 3) (d 4)) := tri_in (by simp only [W] at *; omega) i3 (by simp only [W]; omega)
  have iC : In W 3 (tri (d 2 / 4 + d 3 % 4 * 4611686018427387904) (d 3 / 4 + d 4 % 4 * 4611686018427387904) (d 4 / 4)) := tri_in (by simp only [W] at *; omega) (by simp only [W] at *; omega) (by simp only [W]; omega)
  clear HL HI k4 k5 i0 i1 i2 i3 i4
  generalize tri (d 2 / 4 + d 3 % 4 * 4611686018427387904) (d 3 / 4 + d 4 % 4 * 4611686018427387904) (d 4 / 4) = c at *
  generalize tri (d 2 - d 2 % 4) (d 3) (d 4) = b at *
  generalize tri (d 0) (d 1) (d 2 % 4) = a at *
  refine wp_region_held_drew (S := fun w' => Kr w _ [(B3, .u64, 3, c), (B2, .u64, 3, b), (B1, .u64, 3, a), (w.heap.size, .u64, 6, d)] [(w.heap.size + 1, 3)] w') (by kernel_rfl) K.drew ?_
  clear K
  intro K
  refine rowKH (i := 0) (some 40) rfl .u64 3 a B1 0 49 _ _ rfl rfl rfl rfl (by kernel_rfl) (by kernel_rfl) (by kernel_rfl) (fun _ _ _ h => h) Tryd.underlying49 rfl (cnum_info _) K (fun _ h => (h.get _ _ _ _ (List.mem_cons_of_mem _ (List.mem_cons_of_mem _ List.mem_cons_self))).range) ?_
  simp only [Act.put, List.setIfInBounds_toArray, List.set_cons_zero, List.set_cons_succ]
  refine rowKH (i := 1) (some 41) rfl .u64 3 b B2 0 49 _ _ rfl rfl rfl rfl (by kernel_rfl) (by kernel_rfl) (by kernel_rfl) (fun _ _ _ h => h) Tryd.underlying49 rfl (cnum_info _) K (fun _ h => (h.get _ _ _ _ (List.mem_cons_of_mem _ List.mem_cons_self)).range) ?_
  simp only [Act.put, List.setIfInBounds_toArray, List.set_cons_zero, List.set_cons_succ]
  refine rowKH (i := 3) (some 43) rfl .u64 3 c B3 0 49 _ _ rfl rfl rfl rfl (by kernel_rfl) (by kernel_rfl) (by kernel_rfl) (fun _ _ _ h => h) Tryd.underlying49 rfl (cnum_info _) K (fun _ h => (h.get _ _ _ _ List.mem_cons_self).range) ?_
  simp only [Act.put, List.setIfInBounds_toArray, List.set_cons_zero, List.set_cons_succ]
  refine callH (i := 2) (some 42) rfl (by kernel_rfl) rfl rfl (fun _ => by kernel_rfl) (plus_any a b iA iB (by rw [W3]; omega) _) ?_
  rintro e w5 ⟨m1, rfl, t1, l⟩
  replace K := K.call l
  clear l
  refine ⟨_, rfl, K, ?_⟩
  simp only [Act.put, List.setIfInBounds_toArray, List.set_cons_zero, List.set_cons_succ]
  refine callH (i := 4) (some 44) rfl (by kernel_rfl) rfl rfl (fun _ => by kernel_rfl) (plus_any m1 c t1.1 iC (by rw [W3]; omega) _) ?_
  rintro e w6 ⟨m2, rfl, t2, l⟩
  replace K := K.call l
  clear l
  refine ⟨_, rfl, K, ?_⟩
  simp only [Act.put, List.setIfInBounds_toArray, List.set_cons_zero, List.set_cons_succ]
  refine callH (i := 5) (some 45) rfl (by kernel_rfl) rfl rfl (fun _ => by kernel_rfl) (cfold_any m2 t2.1 (by
    have v := v3 m2
    have p0 := t2.1 0 (by omega)
    have p1 := t2.1 1 (by omega)
    have e1 := t1.2
    have e2 := t2.2
    generalize m2 0 = x0 at *
    generalize m2 1 = x1 at *
    generalize m2 2 = x2 at *
    omega) _) ?_
  rintro e w7 ⟨m, rfl, t3, l⟩
  replace K := K.call l
  clear l
  refine ⟨_, rfl, K, ?_⟩
  simp only [Act.put, List.setIfInBounds_toArray, List.set_cons_zero, List.set_cons_succ]
  refine storesH (i := 6) none rfl .u64 3 m (w.heap.size + 1) 49 _ _ (by kernel_rfl) rfl rfl rfl rfl rfl (K.roomy _ _ _ _ List.mem_cons_self) (cnum_info' _) (K.fill _ _ List.mem_cons_self _) ?_
  refine wpAnyH_done (by kernel_rfl) ?_ _
  have HE := show Hid _ from (And.intro t3.1 (show val W m 3 % Q = val W d 6 % Q by rw [t3.2, t2.2, t1.2, hE]))
  have hz := (K.room _ List.mem_cons_self).1
  have hB := (K.fill _ _ List.mem_cons_self (row .u64 3 m)).below
  clear t1 t2 t3 hE K
  go_wp2
  exact bodyPost_ret (v := (.agg (row .u64 3 (m)).toArray)) (results_row Tryd.results36 rfl (Has.all hz .u64 m).range Tryd.underlying49 rfl (cnum_info m)) rfl ⟨m, rfl, HE.out, hB⟩
end Go.Proofs.YtnphoennagmiaaaDoor
