/- What Low answers: the lowest 16 bytes of a sum. -/
import Derived.Test.YtnphoennagmiaaaDoorCt
import Derived.Test.YtnphoennagmiaaaDoorFloat
namespace Go.Proofs.YtnphoennagmiaaaDoor
open Go.RowKit

/-- 16 bytes, and a nought behind them. -/
def bB (s : Nat → Int) : Nat → Int := over (fun _ => 0) 0 16 s
theorem bB_in (s : Nat → Int) (h : In 256 16 s) : In 256 17 (bB s) := over_in (fun _ _ => ⟨Int.le_refl 0, (by decide : (0 : Int) < 256)⟩) h
theorem bB_val (s : Nat → Int) : val 256 (bB s) 17 = val 256 s 16 := by
  have e : val 256 (bB s) 17 = val 256 (bB s) 16 + 256 ^ 16 * bB s 16 := rfl
  have e1 : bB s 16 = 0 := by unfold bB over; rw [if_neg (by omega)]
  have e2 : val 256 (bB s) 16 = val 256 s 16 := val_congr 256 16 fun j hj => by unfold bB over; rw [if_pos (by omega), Nat.sub_zero]
  rw [e, e1, e2, Int.mul_zero, Int.add_zero]
theorem low_val (f : Nat → Int) (h : In 256 17 f) : val 256 f 16 = val 256 f 17 % 340282366920938463463374607431768211456 := by
  have e : val 256 f 17 = val 256 f 16 + 256 ^ 16 * f 16 := rfl
  have i := val_in 256 (by decide) f 16 (fun j hj => h j (by omega))
  rw [show (256 : Int) ^ 16 = 340282366920938463463374607431768211456 from by decide] at e i
  omega

set_option maxRecDepth 10000 in
set_option maxHeartbeats 4000000 in
theorem clow_any (a s : Nat → Int) (ha : In 256 17 a) (hs : In 256 16 s) (w : World) (hg : Glob w) :
    Calls Tryd.prog 21 #[(.agg (row .u8 17 (a)).toArray), (.agg (row .u8 16 (s)).toArray)] w fun e w' => ∃ f : Nat → Int, e = .returned (.agg (row .u8 16 (f)).toArray) ∧ (In 256 16 f ∧ val 256 f 16 = (val 256 a 17 % Q + val 256 s 16) % 340282366920938463463374607431768211456) ∧ Below w.heap.size w w' := by
  have K := Kr.init w
  replace K := K.box .u8 17 a 33 w.heap.size rfl
  replace K := K.box .u8 16 s 27 (w.heap.size + 1) (by simp)
  replace K := K.make 16 #[.int .u8 0, .int .u8 0, .int .u8 0, .int .u8 0, .int .u8 0, .int .u8 0, .int .u8 0, .int .u8 0, .int .u8 0, .int .u8 0, .int .u8 0, .int .u8 0, .int .u8 0, .int .u8 0, .int .u8 0, .int .u8 0] 27 (w.heap.size + 1 + 1) (by simp) (tag_zero _ _ _ (by simp)).there
  go_enter Tryd.func21, Tryd.ntmps21
  go_upto_region 1 with fail
  generalize (((w.alloc (.cells (row .u8 17 a).toArray 33)).alloc (.cells (row .u8 16 s).toArray 27)).alloc (.cells #[.int .u8 0, .int .u8 0, .int .u8 0, .int .u8 0, .int .u8 0, .int .u8 0, .int .u8 0, .int .u8 0, .int .u8 0, .int .u8 0, .int .u8 0, .int .u8 0, .int .u8 0, .int .u8 0, .int .u8 0, .int .u8 0] 27)) = w1 at K ⊢
  have s1 := K.size
  have H := big_zero w1 33 w1.heap.size rfl
  replace K := K.make 17 #[.int .u8 0, .int .u8 0, .int .u8 0, .int .u8 0, .int .u8 0, .int .u8 0, .int .u8 0, .int .u8 0, .int .u8 0, .int .u8 0, .int .u8 0, .int .u8 0, .int .u8 0, .int .u8 0, .int .u8 0, .int .u8 0, .int .u8 0] 33 w1.heap.size rfl H.there
  go_upto_region 2 with fail
  generalize w1.alloc (.cells #[.int .u8 0, .int .u8 0, .int .u8 0, .int .u8 0, .int .u8 0, .int .u8 0, .int .u8 0, .int .u8 0, .int .u8 0, .int .u8 0, .int .u8 0, .int .u8 0, .int .u8 0, .int .u8 0, .int .u8 0, .int .u8 0, .int .u8 0] 33) = w2 at K H ⊢
  generalize w1.heap.size = O at *
  clear w1
  refine wp_region_held_drew (S := fun w' => Kr w _ [(w.heap.size + 1, .u8, 16, s), (w.heap.size, .u8, 17, a)] [(O, 17), (w.heap.size + 1 + 1, 16)] w') (by kernel_rfl) K.drew ?_
  clear K
  intro K
  replace H := H.drew
  refine pureH (i := 0) (some 9) rfl (.slice (some ⟨O, 0, none⟩) 17 17) rfl rfl (fun _ => by kernel_rfl) (by kernel_rfl) (by kernel_rfl) (by kernel_rfl) (fun _ _ _ h => h) K ?_
  simp only [Act.put, List.setIfInBounds_toArray, List.set_cons_zero, List.set_cons_succ]
  refine pureH (i := 1) (some 10) rfl (.slice (some ⟨w.heap.size + 1, 0, none⟩) 16 16) rfl rfl (fun _ => by kernel_rfl) (by kernel_rfl) (by kernel_rfl) (by kernel_rfl) (fun _ _ _ h => h) K ?_
  simp only [Act.put, List.setIfInBounds_toArray, List.set_cons_zero, List.set_cons_succ]
  refine actH (i := 2) (some 11) rfl (.int .i64 ((16 : Nat) : Int)) (by kernel_rfl) rfl rfl (run_copy _ _ 24 24 5 rfl Tryd.underlying24 (by kernel_rfl) O 17 17 (w.heap.size + 1) 0 16 16 16 17 .u8 s s rfl rfl rfl (by omega) H.there (fun j hj => (K.get _ _ _ _ List.mem_cons_self).cell (0 + j) (by omega)) (fun j _ => by rw [Nat.zero_add])) (K.fill O 17 List.mem_cons_self _) ?_
  simp only [Act.put, List.setIfInBounds_toArray, List.set_cons_zero, List.set_cons_succ]
  refine wpAnyH_done (by kernel_rfl) ?_ _
  replace K := (K.fill O 17 List.mem_cons_self (row .u8 16 s)).settle [(w.heap.size + 1 + 1, 16)] O .u8 17 (bB s) List.mem_cons_self (fun q hq => List.mem_cons_of_mem _ hq) (List.forall_mem_cons.2 ⟨by show w.heap.size + 1 + 1 ≠ O; omega, List.forall_mem_nil _⟩) (H.part 0 16 (by omega) s)
  clear H
  generalize (w2.drew.setCells O 0 (row .u8 16 s)) = w3 at K ⊢
  clear w2
  go_upto_region 3 with fail
  refine wp_region_held_drew (S := fun w' => Kr w _ [(O, .u8, 17, bB s), (w.heap.size + 1, .u8, 16, s), (w.heap.size, .u8, 17, a)] [(w.heap.size + 1 + 1, 16)] w') (by kernel_rfl) K.drew ?_
  clear K
  intro K
  refine rowKH (i := 0) (some 12) rfl .u8 17 a w.heap.size 0 33 _ _ rfl rfl rfl rfl (by kernel_rfl) (by kernel_rfl) (by kernel_rfl) (fun _ _ _ h => h) Tryd.underlying33 rfl (big_info _) K (fun _ h => (h.get _ _ _ _ (List.mem_cons_of_mem _ (List.mem_cons_of_mem _ List.mem_cons_self))).range) ?_
  simp only [Act.put, List.setIfInBounds_toArray, List.set_cons_zero, List.set_cons_succ]
  refine rowKH (i := 3) (some 15) rfl .u8 17 (bB s) O 0 33 _ _ rfl rfl rfl rfl (by kernel_rfl) (by kernel_rfl) (by kernel_rfl) (fun _ _ _ h => h) Tryd.underlying33 rfl (big_info _) K (fun _ h => (h.get _ _ _ _ List.mem_cons_self).range) ?_
  simp only [Act.put, List.setIfInBounds_toArray, List.set_cons_zero, List.set_cons_succ]
  refine Chain.go (z := 6) (t := 6) (n := 3) (w0 := O + 1) (k := 4) ?_ #[.int .u64 0, .int .u64 0, .int .u64 0] 49 rfl rfl rfl (fun _ _ => by kernel_rfl) (fun _ => (cnum_zero _ _ _ rfl).there) (fun _ h => h.size) (fun _ _ h l => h.call l) _ K
  refine Chain.call 1 13 (fun v => ∃ m, v = (.agg (row .u64 3 (m)).toArray) ∧ Folded m ∧ val W m 3 % Q = val 256 a 17 % Q) (by kernel_rfl) (by kernel_rfl) rfl rfl rfl (by decide) (by decide) (by intros; simp) (by decide +kernel) (fun _ => by kernel_rfl) (fun w' _ => (cload_any a ha w').mono fun e w'' ⟨m, he, hm, l⟩ => ⟨_, he, ⟨m, rfl, hm⟩, l⟩) ?_
  rintro _ ⟨m1, rfl, t1⟩
  simp only [Act.put, List.setIfInBounds_toArray, List.set_cons_zero, List.set_cons_succ]
  refine Chain.call 2 14 (fun v => ∃ m, v = (.agg (row .u64 3 (m)).toArray) ∧ In W 3 m ∧ val W m 3 = val W m1 3 % Q) (by kernel_rfl) (by kernel_rfl) rfl rfl rfl (by decide) (by decide) (by intros; simp) (by decide +kernel) (fun _ => by kernel_rfl) (fun w' h => (cleast_any m1 t1.1.1 t1.1.2 w' (hg.below h.below hg.size)).mono fun e w'' ⟨m, he, hm, l⟩ => ⟨_, he, ⟨m, rfl, hm⟩, l⟩) ?_
  rintro _ ⟨m2, rfl, t2⟩
  simp only [Act.put, List.setIfInBounds_toArray, List.set_cons_zero, List.set_cons_succ]
  refine Chain.call 4 16 (fun v => ∃ m, v = (.agg (row .u64 3 (m)).toArray) ∧ In W 3 m ∧ m 2 < 256 ∧ val W m 3 = val 256 (bB s) 17) (by kernel_rfl) (by kernel_rfl) rfl rfl rfl (by decide) (by decide) (by intros; simp) (by decide +kernel) (fun _ => by kernel_rfl) (fun w' _ => (split_any (bB s) (bB_in s hs) w').mono fun e w'' ⟨m, he, hm, l⟩ => ⟨_, he, ⟨m, rfl, hm⟩, l⟩) ?_
  rintro _ ⟨m3, rfl, t3⟩
  simp only [Act.put, List.setIfInBounds_toArray, List.set_cons_zero, List.set_cons_succ]
  have hsum : val W m2 3 + val W m3 3 < W ^ 3 := by
    have q1 := t2.2
    have q3 := t3.2.2
    rw [bB_val] at q3
    have q2 := val_in 256 (by decide) s 16 hs
    rw [show (256 : Int) ^ 16 = 340282366920938463463374607431768211456 from by decide] at q2
    rw [W3, q1, q3]
    simp only [Q]
    omega
  refine Chain.call 5 17 (fun v => ∃ m, v = (.agg (row .u64 3 (m)).toArray) ∧ In W 3 m ∧ val W m 3 = val W m2 3 + val W m3 3) (by kernel_rfl) (by kernel_rfl) rfl rfl rfl (by decide) (by decide) (by intros; simp) (by decide +kernel) (fun _ => by kernel_rfl) (fun w' _ => (plus_any m2 m3 t2.1 t3.1 hsum w').mono fun e w'' ⟨m, he, hm, l⟩ => ⟨_, he, ⟨m, rfl, hm⟩, l⟩) ?_
  rintro _ ⟨m4, rfl, t4⟩
  simp only [Act.put, List.setIfInBounds_toArray, List.set_cons_zero, List.set_cons_succ]
  refine Chain.last (by kernel_rfl) ?_
  clear K
  intro B w4 K hF
  simp only [Act.put, List.setIfInBounds_toArray, List.set_cons_zero, List.set_cons_succ]
  refine storesH (i := 7) none rfl .u64 3 m4 B 49 _ _ (by kernel_rfl) rfl rfl rfl rfl rfl (room_of hF.th) (cnum_info' _) (K.past B hF.lo _) ?_
  refine wpAnyH_done (by kernel_rfl) ?_ _
  have hBO := hF.lo
  replace K := K.land hF .u64 m4
  clear hF
  have hfit : In 256 17 (joinB m4) ∧ val 256 (joinB m4) 16 = (val 256 a 17 % Q + val 256 s 16) % 340282366920938463463374607431768211456 := by
    refine ⟨joinB_in m4, ?_⟩
    rw [low_val _ (joinB_in m4), joinB_val m4 t4.1, t4.2, t3.2.2, bB_val, t2.2, t1.2]
    omega
  have HE := show Hid _ from hfit
  clear hfit t1 t2 t3 t4 hsum
  generalize w4.setCells B 0 (row .u64 3 m4) = w5 at K ⊢
  have s5 := K.size
  generalize w4.heap.size = N4 at K s5
  clear w4
  go_upto_region 4 with fail
  replace K := K.make 16 #[.int .u8 0, .int .u8 0, .int .u8 0, .int .u8 0, .int .u8 0, .int .u8 0, .int .u8 0, .int .u8 0, .int .u8 0, .int .u8 0, .int .u8 0, .int .u8 0, .int .u8 0, .int .u8 0, .int .u8 0, .int .u8 0] 27 w5.heap.size rfl (tag_zero _ _ _ rfl).there
  go_upto_region 5 with fail
  generalize w5.alloc (.cells #[.int .u8 0, .int .u8 0, .int .u8 0, .int .u8 0, .int .u8 0, .int .u8 0, .int .u8 0, .int .u8 0, .int .u8 0, .int .u8 0, .int .u8 0, .int .u8 0, .int .u8 0, .int .u8 0, .int .u8 0, .int .u8 0] 27) = w6 at K ⊢
  generalize w5.heap.size = U at K s5 ⊢
  clear w5
  refine wp_region_list ?_
  refine rowKL .u64 3 m4 B 0 49 _ _ rfl rfl rfl Tryd.underlying49 rfl (cnum_info _) (K.get _ _ _ _ List.mem_cons_self).range ?_
  simp only [Act.put, List.setIfInBounds_toArray, List.set_cons_zero, List.set_cons_succ]
  refine callL rfl (fun _ => by kernel_rfl) (join_any m4 _) ?_
  rintro e w7 ⟨rfl, l⟩
  replace K := K.call l
  clear l
  refine ⟨_, rfl, ?_⟩
  simp only [Act.put, List.setIfInBounds_toArray, List.set_cons_zero, List.set_cons_succ]
  refine allocL #[.int .u8 0, .int .u8 0, .int .u8 0, .int .u8 0, .int .u8 0, .int .u8 0, .int .u8 0, .int .u8 0, .int .u8 0, .int .u8 0, .int .u8 0, .int .u8 0, .int .u8 0, .int .u8 0, .int .u8 0, .int .u8 0, .int .u8 0] 33 rfl (fun _ => by kernel_rfl) ?_
  simp only [Act.put, List.setIfInBounds_toArray, List.set_cons_zero, List.set_cons_succ]
  refine storesL .u8 17 (joinB m4) w7.heap.size 33 _ _ rfl rfl rfl rfl (room_of (big_zero _ _ _ rfl).there) (big_info' _) ?_
  simp only [Act.put]
  have s7 := K.size
  replace K := K.fresh .u8 17 (joinB m4) #[.int .u8 0, .int .u8 0, .int .u8 0, .int .u8 0, .int .u8 0, .int .u8 0, .int .u8 0, .int .u8 0, .int .u8 0, .int .u8 0, .int .u8 0, .int .u8 0, .int .u8 0, .int .u8 0, .int .u8 0, .int .u8 0, .int .u8 0] 33 (big_zero _ _ _ rfl).there
  generalize ((w7.alloc (.cells #[.int .u8 0, .int .u8 0, .int .u8 0, .int .u8 0, .int .u8 0, .int .u8 0, .int .u8 0, .int .u8 0, .int .u8 0, .int .u8 0, .int .u8 0, .int .u8 0, .int .u8 0, .int .u8 0, .int .u8 0, .int .u8 0, .int .u8 0] 33)).setCells w7.heap.size 0 (row .u8 17 (joinB m4))) = w8 at K ⊢
  generalize w7.heap.size = X at K s7 ⊢
  clear w7
  show Exit.then _ _ _ _ _
  go_upto_region 6 with fail
  refine wp_region_held_drew (S := fun w' => Kr w _ [(X, .u8, 17, joinB m4), (B, .u64, 3, m4), (O, .u8, 17, bB s), (w.heap.size + 1, .u8, 16, s), (w.heap.size, .u8, 17, a)] [(U, 16), (w.heap.size + 1 + 1, 16)] w') (by kernel_rfl) K.drew ?_
  clear K
  intro K
  refine pureH (i := 0) (some 20) rfl (.slice (some ⟨U, 0, none⟩) 16 16) rfl rfl (fun _ => by kernel_rfl) (by kernel_rfl) (by kernel_rfl) (by kernel_rfl) (fun _ _ _ h => h) K ?_
  simp only [Act.put, List.setIfInBounds_toArray, List.set_cons_zero, List.set_cons_succ]
  refine pureH (i := 1) (some 21) rfl (.slice (some ⟨X, 0, none⟩) 17 17) rfl rfl (fun _ => by kernel_rfl) (by kernel_rfl) (by kernel_rfl) (by kernel_rfl) (fun _ _ _ h => h) K ?_
  simp only [Act.put, List.setIfInBounds_toArray, List.set_cons_zero, List.set_cons_succ]
  refine actH (i := 2) (some 22) rfl (.int .i64 ((16 : Nat) : Int)) (by kernel_rfl) rfl rfl (run_copy _ _ 24 24 5 rfl Tryd.underlying24 (by kernel_rfl) U 16 16 X 0 17 17 16 16 .u8 (joinB m4) (joinB m4) rfl rfl rfl (by omega) (K.room _ List.mem_cons_self).1 (fun j hj => (K.get _ _ _ _ List.mem_cons_self).cell (0 + j) (by omega)) (fun j _ => by rw [Nat.zero_add])) (K.fill U 16 List.mem_cons_self _) ?_
  simp only [Act.put, List.setIfInBounds_toArray, List.set_cons_zero, List.set_cons_succ]
  refine wpAnyH_done (by kernel_rfl) ?_ _
  have H := Has.all (K.room _ List.mem_cons_self).1 .u8 (joinB m4)
  replace K := K.fill U 16 List.mem_cons_self (row .u8 16 (joinB m4))
  generalize (w8.drew.setCells U 0 (row .u8 16 (joinB m4))) = w9 at K H ⊢
  have hz := (K.room _ (List.mem_cons_of_mem _ List.mem_cons_self)).1
  have hB := (K.fill _ _ (List.mem_cons_of_mem _ List.mem_cons_self) (row .u8 16 (joinB m4))).below
  clear K s7 s5 hBO s1
  generalize hj : joinB m4 = f at *
  go_wp2_with (first | (refine wpList_load_mid rfl 27 _ rfl (U) 0 rfl (row .u8 16 (f)) _ (Has.range (H)) Tryd.underlying27 rfl (tag_info _) ?_) | (refine wpList_store_mid rfl 27 _ _ rfl (w.heap.size + 1 + 1) 0 (row .u8 16 f).toArray rfl rfl (room_of hz) (tag_info' _) (all_oneCell_toArray (row_one _ _ _)) ?_))
  exact bodyPost_ret (v := (.agg (row .u8 16 (f)).toArray)) (results_row Tryd.results21 rfl (Has.all hz .u8 f).range Tryd.underlying27 rfl (tag_info f)) rfl ⟨f, rfl, ⟨fun j hj => HE.out.1 j (by omega), HE.out.2⟩, hB⟩
end Go.Proofs.YtnphoennagmiaaaDoor
