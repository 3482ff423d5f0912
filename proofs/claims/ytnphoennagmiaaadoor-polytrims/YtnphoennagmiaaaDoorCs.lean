/- What split, join, load and save make of 17 bytes and of three words. -/
import Derived.Test.YtnphoennagmiaaaDoorCl
import Derived.Test.YtnphoennagmiaaaDoorCf
import Derived.Test.YtnphoennagmiaaaDoorKr
import Derived.Test.YtnphoennagmiaaaDoorWq
import Derived.Test.YtnphoennagmiaaaDoorPt
namespace Go.Proofs.YtnphoennagmiaaaDoor
open Go.RowKit

theorem big_info (f : Nat → Int) : (Tryd.prog.info? 33).map (·.size) = some (row .u8 17 f).length := by rw [row_length]; kernel_rfl
theorem big_info' (f : Nat → Int) : (Tryd.prog.info? 33).map (·.size) = some (row .u8 17 f).toArray.size := by rw [List.size_toArray]; exact big_info f
theorem big_there {w : World} {b : Nat} {f g : Nat → Int} (h : Has w b .u8 17 f) : w.there b 0 (row .u8 17 g).toArray.size := by rw [List.size_toArray, row_length]; exact h.there
theorem big_zero (w : World) (t : TypeId) (b : Nat) (hb : b = w.heap.size) : Has (w.alloc (.cells #[.int .u8 0, .int .u8 0, .int .u8 0, .int .u8 0, .int .u8 0, .int .u8 0, .int .u8 0, .int .u8 0, .int .u8 0, .int .u8 0, .int .u8 0, .int .u8 0, .int .u8 0, .int .u8 0, .int .u8 0, .int .u8 0, .int .u8 0] t)) b .u8 17 (fun _ => 0) := Has.new w .u8 17 (fun _ => 0) t b hb
theorem big_val (f : Nat → Int) : val 256 f 17 = val 256 f 8 + 18446744073709551616 * val 256 (fun j => f (8 + j)) 8 + 340282366920938463463374607431768211456 * f 16 := by
  have e1 : val 256 f 17 = val 256 f 16 + 256 ^ 16 * f 16 := rfl
  have e2 := val_split 256 f 8 8
  rw [show (8 + 8 : Nat) = 16 from rfl] at e2
  rw [e1, e2, show (256 : Int) ^ 8 = 18446744073709551616 from by decide, show (256 : Int) ^ 16 = 340282366920938463463374607431768211456 from by decide]

theorem words_in (a : Nat → Int) (ha : In 256 17 a) (o : Nat) (ho : o + 8 ≤ 17) : 0 ≤ val 256 (fun j => a (o + j)) 8 ∧ val 256 (fun j => a (o + j)) 8 < W :=
  val_in 256 (by decide) (fun j => a (o + j)) 8 (fun j hj => ha (o + j) (by omega))
theorem wrap_byte (x : Int) (h : 0 ≤ x ∧ x < 256) : IntKind.u64.wrap x = x := by rw [IntKind.wrap_u64]; omega

set_option maxHeartbeats 2000000 in
theorem split_any (a : Nat → Int) (ha : In 256 17 a) (w : World) :
    Calls Tryd.prog 33 #[(.agg (row .u8 17 (a)).toArray)] w fun e w' => ∃ n : Nat → Int, e = .returned (.agg (row .u64 3 (n)).toArray) ∧ (In W 3 n ∧ n 2 < 256 ∧ val W n 3 = val 256 a 17) ∧ Below w.heap.size w w' := by
  have K := Kr.init w
  replace K := K.box .u8 17 a 33 w.heap.size rfl
  replace K := K.make 3 #[.int .u64 0, .int .u64 0, .int .u64 0] 49 (w.heap.size + 1) (by simp) (cnum_zero _ _ _ (by simp)).there
  go_enter Tryd.func33, Tryd.ntmps33
  go_upto_region 1 with fail
  refine wp_region_held_drew (S := fun w' => Kr w _ [(w.heap.size, .u8, 17, a)] [(w.heap.size + 1, 3)] w') (by kernel_rfl) K.drew ?_
  clear K
  intro K
  refine pureH (i := 0) (some 3) rfl (.slice (some ⟨w.heap.size, 0, none⟩) 8 17) rfl rfl (fun _ => by kernel_rfl) (by kernel_rfl) (by kernel_rfl) (by kernel_rfl) (fun _ _ _ h => h) K ?_
  simp only [Act.put, List.setIfInBounds_toArray, List.set_cons_zero, List.set_cons_succ]
  refine pureH (i := 2) (some 5) rfl (.slice (some ⟨w.heap.size, 8, none⟩) 8 9) rfl rfl (fun _ => by kernel_rfl) (by kernel_rfl) (by kernel_rfl) (by kernel_rfl) (fun _ _ _ h => h) K ?_
  simp only [Act.put, List.setIfInBounds_toArray, List.set_cons_zero, List.set_cons_succ]
  refine pureH (i := 4) (some 7) rfl (.pointer (some ⟨w.heap.size, 16, none⟩)) rfl rfl (fun _ => by kernel_rfl) (by kernel_rfl) (by kernel_rfl) (by kernel_rfl) (fun _ _ _ h => h) K ?_
  simp only [Act.put, List.setIfInBounds_toArray, List.set_cons_zero, List.set_cons_succ]
  refine cellH (i := 5) (some 8) rfl .u8 (.int .u8 (a 16)) w.heap.size 16 5 _ rfl rfl rfl rfl (by kernel_rfl) (by kernel_rfl) (by kernel_rfl) (fun _ _ _ h => h) Tryd.underlying5 K (fun _ h => (h.get _ _ _ _ List.mem_cons_self).cell 16 (by omega)) ?_
  simp only [Act.put, List.setIfInBounds_toArray, List.set_cons_zero, List.set_cons_succ]
  refine pureH (i := 6) (some 9) rfl (.int .u64 (IntKind.u64.wrap (a 16))) rfl rfl (fun _ => by kernel_rfl) (by kernel_rfl) (by kernel_rfl) (by kernel_rfl) (fun _ _ _ h => h) K ?_
  simp only [Act.put, List.setIfInBounds_toArray, List.set_cons_zero, List.set_cons_succ]
  rw [wrap_byte (a 16) (ha 16 (by omega))]
  refine callH (i := 1) (some 4) rfl (by kernel_rfl) rfl rfl (fun _ => by kernel_rfl) (of_any w.heap.size 0 17 17 a (by omega) ha _ (K.get _ _ _ _ List.mem_cons_self)) ?_
  rintro e w1 ⟨rfl, l⟩
  replace K := K.call l
  clear l
  refine ⟨_, rfl, K, ?_⟩
  simp only [Act.put, List.setIfInBounds_toArray, List.set_cons_zero, List.set_cons_succ]
  refine callH (i := 3) (some 6) rfl (by kernel_rfl) rfl rfl (fun _ => by kernel_rfl) (of_any w.heap.size 8 17 9 a (by omega) ha _ (K.get _ _ _ _ List.mem_cons_self)) ?_
  rintro e w2 ⟨rfl, l⟩
  replace K := K.call l
  clear l
  refine ⟨_, rfl, K, ?_⟩
  simp only [Act.put, List.setIfInBounds_toArray, List.set_cons_zero, List.set_cons_succ]
  have i0 := words_in a ha 0 (by omega)
  have i1 := words_in a ha 8 (by omega)
  have i2 := ha 16 (by omega)
  have hv := big_val a
  have e0 : val 256 (fun j => a (0 + j)) 8 = val 256 a 8 := val_congr 256 8 fun j _ => by rw [Nat.zero_add]
  rw [e0] at i0 ⊢
  generalize val 256 a 8 = x at *
  generalize val 256 (fun j => a (8 + j)) 8 = y at *
  generalize a 16 = z at *
  have HE := show Hid (In W 3 (tri x y z) ∧ tri x y z 2 < 256 ∧ val W (tri x y z) 3 = val 256 a 17) from ⟨tri_in i0 i1 (by simp only [W]; omega), i2.2, by rw [tri_val, hv]⟩
  clear i0 i1 i2 hv e0
  refine pureH (i := 7) (some 10) rfl (.agg (row .u64 3 (tri x y z)).toArray) rfl rfl (fun _ => by kernel_rfl) (by kernel_rfl) (by kernel_rfl) (by kernel_rfl) (fun _ _ _ h => h) K ?_
  simp only [Act.put, List.setIfInBounds_toArray, List.set_cons_zero, List.set_cons_succ]
  refine storesH (i := 8) none rfl .u64 3 (tri x y z) (w.heap.size + 1) 49 _ _ (by kernel_rfl) rfl rfl rfl rfl rfl (K.roomy _ _ _ _ List.mem_cons_self) (cnum_info' _) (K.fill _ _ List.mem_cons_self _) ?_
  refine wpAnyH_done (by kernel_rfl) ?_ _
  have hz := (K.room _ List.mem_cons_self).1
  have hB := (K.fill _ _ List.mem_cons_self (row .u64 3 (tri x y z))).below
  clear K
  go_wp2
  exact bodyPost_ret (v := (.agg (row .u64 3 (tri x y z)).toArray)) (results_row Tryd.results33 rfl (Has.all hz .u64 _).range Tryd.underlying49 rfl (cnum_info _)) rfl ⟨_, rfl, HE.out, hB⟩

/-- The bytes that join writes. -/
def joinB (n : Nat → Int) : Nat → Int := upd (over (over (fun _ => 0) 0 8 (byt (n 0))) 8 8 (byt (n 1))) 16 (n 2 % 256)
theorem joinB_in (n : Nat → Int) : In 256 17 (joinB n) := (over_in (over_in (fun _ _ => ⟨Int.le_refl 0, (by decide : (0 : Int) < 256)⟩) (byt_in _)) (byt_in _)).upd 16 _ (by omega) (by omega)
theorem joinB_val (n : Nat → Int) (hn : In W 3 n) : val 256 (joinB n) 17 = val W n 3 % 87112285931760246646623899502532662132736 := by
  have h0 := hn 0 (by omega)
  have h1 := hn 1 (by omega)
  have h2 := hn 2 (by omega)
  have b0 := val_byt (n 0) h0.1 h0.2
  have b1 := val_byt (n 1) h1.1 h1.2
  have e0 : val 256 (joinB n) 8 = n 0 := by
    rw [← b0]
    refine val_congr 256 8 fun j hj => ?_
    unfold joinB
    rw [upd_other _ _ _ _ (by omega)]
    unfold over
    rw [if_neg (by omega), if_pos (by omega), Nat.sub_zero]
  have e1 : val 256 (fun j => joinB n (8 + j)) 8 = n 1 := by
    rw [← b1]
    refine val_congr 256 8 fun j hj => ?_
    unfold joinB
    rw [upd_other _ _ _ _ (by omega)]
    unfold over
    rw [if_pos (by omega), Nat.add_sub_cancel_left]
  have e2 : joinB n 16 = n 2 % 256 := by unfold joinB; rw [upd_same]
  rw [big_val, e0, e1, e2, v3]
  simp only [W] at *
  omega

set_option maxRecDepth 10000 in
set_option maxHeartbeats 2000000 in
theorem join_any (n : Nat → Int) (w : World) :
    Calls Tryd.prog 34 #[(.agg (row .u64 3 (n)).toArray)] w fun e w' => e = .returned (.agg (row .u8 17 (joinB n)).toArray) ∧ Below w.heap.size w w' := by
  have K := Kr.init w
  replace K := K.box .u64 3 n 49 w.heap.size rfl
  replace K := K.make 17 #[.int .u8 0, .int .u8 0, .int .u8 0, .int .u8 0, .int .u8 0, .int .u8 0, .int .u8 0, .int .u8 0, .int .u8 0, .int .u8 0, .int .u8 0, .int .u8 0, .int .u8 0, .int .u8 0, .int .u8 0, .int .u8 0, .int .u8 0] 33 (w.heap.size + 1) (by simp) (big_zero _ _ _ (by simp)).there
  go_enter Tryd.func34, Tryd.ntmps34
  go_upto_region 1 with fail
  generalize ((w.alloc (.cells (row .u64 3 n).toArray 49)).alloc (.cells #[.int .u8 0, .int .u8 0, .int .u8 0, .int .u8 0, .int .u8 0, .int .u8 0, .int .u8 0, .int .u8 0, .int .u8 0, .int .u8 0, .int .u8 0, .int .u8 0, .int .u8 0, .int .u8 0, .int .u8 0, .int .u8 0, .int .u8 0] 33)) = w1 at K ⊢
  have s1 := K.size
  have H := big_zero w1 33 w1.heap.size rfl
  replace K := K.make 17 #[.int .u8 0, .int .u8 0, .int .u8 0, .int .u8 0, .int .u8 0, .int .u8 0, .int .u8 0, .int .u8 0, .int .u8 0, .int .u8 0, .int .u8 0, .int .u8 0, .int .u8 0, .int .u8 0, .int .u8 0, .int .u8 0, .int .u8 0] 33 w1.heap.size rfl H.there
  go_upto_region 2 with fail
  generalize w1.alloc (.cells #[.int .u8 0, .int .u8 0, .int .u8 0, .int .u8 0, .int .u8 0, .int .u8 0, .int .u8 0, .int .u8 0, .int .u8 0, .int .u8 0, .int .u8 0, .int .u8 0, .int .u8 0, .int .u8 0, .int .u8 0, .int .u8 0, .int .u8 0] 33) = w2 at K H ⊢
  generalize w1.heap.size = O at *
  clear w1
  refine wp_region_held_drew (S := fun w' => Kr w _ [(w.heap.size, .u64, 3, n)] [(O, 17), (w.heap.size + 1, 17)] w') (by kernel_rfl) K.drew ?_
  clear K
  intro K
  replace H := H.drew
  refine pureH (i := 0) (some 4) rfl (.slice (some ⟨O, 0, none⟩) 8 17) rfl rfl (fun _ => by kernel_rfl) (by kernel_rfl) (by kernel_rfl) (by kernel_rfl) (fun _ _ _ h => h) K ?_
  simp only [Act.put, List.setIfInBounds_toArray, List.set_cons_zero, List.set_cons_succ]
  refine pureH (i := 1) (some 5) rfl (.pointer (some ⟨w.heap.size, 0, none⟩)) rfl rfl (fun _ => by kernel_rfl) (by kernel_rfl) (by kernel_rfl) (by kernel_rfl) (fun _ _ _ h => h) K ?_
  simp only [Act.put, List.setIfInBounds_toArray, List.set_cons_zero, List.set_cons_succ]
  refine cellH (i := 2) (some 6) rfl .u64 (.int .u64 (n 0)) w.heap.size 0 47 _ rfl rfl rfl rfl (by kernel_rfl) (by kernel_rfl) (by kernel_rfl) (fun _ _ _ h => h) Tryd.underlying47 K (fun _ h => (h.get _ _ _ _ List.mem_cons_self).cell 0 (by omega)) ?_
  simp only [Act.put, List.setIfInBounds_toArray, List.set_cons_zero, List.set_cons_succ]
  refine callH (i := 3) (some 7) rfl (by kernel_rfl) rfl rfl (fun _ => by kernel_rfl) (put_any O 0 17 17 _ (n 0) (by omega) _ H) ?_
  rintro e w' ⟨rfl, rfl⟩
  replace K := K.poke O 17 List.mem_cons_self 0 (row .u8 8 (byt (n 0)))
  replace H := H.part 0 8 (by omega) (byt (n 0))
  refine ⟨_, rfl, K, ?_⟩
  simp only [Act.put, List.setIfInBounds_toArray, List.set_cons_zero, List.set_cons_succ]
  refine wpAnyH_done (by kernel_rfl) ?_ _
  generalize (w2.drew.setCells O 0 (row .u8 8 (byt (n 0)))) = w3 at K H ⊢
  go_upto_region 3 with fail
  refine wp_region_held_drew (S := fun w' => Kr w _ [(w.heap.size, .u64, 3, n)] [(O, 17), (w.heap.size + 1, 17)] w') (by kernel_rfl) K.drew ?_
  clear K
  intro K
  replace H := H.drew
  refine pureH (i := 0) (some 8) rfl (.slice (some ⟨O, 8, none⟩) 8 9) rfl rfl (fun _ => by kernel_rfl) (by kernel_rfl) (by kernel_rfl) (by kernel_rfl) (fun _ _ _ h => h) K ?_
  simp only [Act.put, List.setIfInBounds_toArray, List.set_cons_zero, List.set_cons_succ]
  refine pureH (i := 1) (some 9) rfl (.pointer (some ⟨w.heap.size, 1, none⟩)) rfl rfl (fun _ => by kernel_rfl) (by kernel_rfl) (by kernel_rfl) (by kernel_rfl) (fun _ _ _ h => h) K ?_
  simp only [Act.put, List.setIfInBounds_toArray, List.set_cons_zero, List.set_cons_succ]
  refine cellH (i := 2) (some 10) rfl .u64 (.int .u64 (n 1)) w.heap.size 1 47 _ rfl rfl rfl rfl (by kernel_rfl) (by kernel_rfl) (by kernel_rfl) (fun _ _ _ h => h) Tryd.underlying47 K (fun _ h => (h.get _ _ _ _ List.mem_cons_self).cell 1 (by omega)) ?_
  simp only [Act.put, List.setIfInBounds_toArray, List.set_cons_zero, List.set_cons_succ]
  refine callH (i := 3) (some 11) rfl (by kernel_rfl) rfl rfl (fun _ => by kernel_rfl) (put_any O 8 17 9 _ (n 1) (by omega) _ H) ?_
  rintro e w' ⟨rfl, rfl⟩
  replace K := K.poke O 17 List.mem_cons_self 8 (row .u8 8 (byt (n 1)))
  replace H := H.part 8 8 (by omega) (byt (n 1))
  refine ⟨_, rfl, K, ?_⟩
  simp only [Act.put, List.setIfInBounds_toArray, List.set_cons_zero, List.set_cons_succ]
  refine wpAnyH_done (by kernel_rfl) ?_ _
  generalize (w3.drew.setCells O 8 (row .u8 8 (byt (n 1)))) = w4 at K H ⊢
  go_upto_region 4 with fail
  have c2 := (K.get _ _ _ _ List.mem_cons_self).cell 2 (by omega)
  have d2 := H.cell 16 (by omega)
  have f2 := H.free 16 (by omega)
  have H2 := H.set 16 (by omega) (n 2 % 256)
  replace K := K.poke O 17 List.mem_cons_self 16 [.int .u8 (n 2 % 256)]
  have K2 : Kr w _ [(w.heap.size, .u64, 3, n)] [(O, 17), (w.heap.size + 1, 17)] (w4.setCell ⟨O, 16, none⟩ (.int .u8 (n 2 % 256))) := K
  clear K H
  go_upto_region 5 with fail
  have H : Has (w4.setCell ⟨O, 16, none⟩ (.int .u8 (n 2 % 256))) O .u8 17 (joinB n) := H2
  clear H2
  generalize w4.setCell ⟨O, 16, none⟩ (.int .u8 (n 2 % 256)) = w5 at K2 H ⊢
  clear c2 d2 f2
  have hz := (K2.room _ (List.mem_cons_of_mem _ List.mem_cons_self)).1
  have hB := (K2.fill _ _ (List.mem_cons_of_mem _ List.mem_cons_self) (row .u8 17 (joinB n))).below
  clear K2
  generalize hf : joinB n = f at *
  go_wp2_with (first | (refine wpList_load_mid rfl 33 _ rfl (O) 0 rfl (row .u8 17 (f)) _ (Has.range (H)) Tryd.underlying33 rfl (big_info _) ?_) | (refine wpList_store_mid rfl 33 _ _ rfl (w.heap.size + 1) 0 (row .u8 17 f).toArray rfl rfl (room_of hz) (big_info' _) (all_oneCell_toArray (row_one _ _ _)) ?_))
  exact bodyPost_ret (v := (.agg (row .u8 17 (f)).toArray)) (results_row Tryd.results34 rfl (Has.all hz .u8 f).range Tryd.underlying33 rfl (big_info f)) rfl ⟨rfl, hB⟩
end Go.Proofs.YtnphoennagmiaaaDoor
