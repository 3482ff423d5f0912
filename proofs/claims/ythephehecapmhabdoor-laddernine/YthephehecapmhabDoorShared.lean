/- What Public and Shared answer. -/
import Derived.Test.YthephehecapmhabDoorTimes
namespace Go.Proofs.YthephehecapmhabDoor
open Go.RowKit

set_option maxRecDepth 10000 in
set_option maxHeartbeats 4000000 in
theorem public_any (k : Nat → Int) (hk : In 256 32 k) (w : World) (hg : Glob w) (ht : Trs w) :
    Calls Tryd.prog 9 #[(.agg (row .u8 32 (k)).toArray)] w fun e w' => ∃ f : Nat → Int, e = .returned (.agg (row .u8 32 (f)).toArray) ∧ (In 256 32 f ∧ val 256 f 32 = ((tm k (one 9)).val : Int)) ∧ Below w.heap.size w w' := by
  have K := Kq.init w
  replace K := K.box 32 k 23 (w.heap.size) rfl
  replace K := K.make 32 #[.int .u8 0, .int .u8 0, .int .u8 0, .int .u8 0, .int .u8 0, .int .u8 0, .int .u8 0, .int .u8 0, .int .u8 0, .int .u8 0, .int .u8 0, .int .u8 0, .int .u8 0, .int .u8 0, .int .u8 0, .int .u8 0, .int .u8 0, .int .u8 0, .int .u8 0, .int .u8 0, .int .u8 0, .int .u8 0, .int .u8 0, .int .u8 0, .int .u8 0, .int .u8 0, .int .u8 0, .int .u8 0, .int .u8 0, .int .u8 0, .int .u8 0, .int .u8 0] 23 (w.heap.size + 1) (by simp) (key_zero _ _ _ (by simp)).there
  go_enter Tryd.func9, Tryd.ntmps9
  go_upto_region 1 with fail
  refine wp_region_list ?_
  refine rowAtL 32 k (w.heap.size) 0 23 _ _ rfl rfl rfl Tryd.underlying23 rfl (key_info _) (K.whole _ _ List.mem_cons_self) ?_
  simp only [Act.put, List.setIfInBounds_toArray, List.set_cons_zero, List.set_cons_succ]
  refine pureL (.agg (row .u8 32 (one 9)).toArray) rfl (fun _ => by kernel_rfl) ?_
  simp only [Act.put, List.setIfInBounds_toArray, List.set_cons_zero, List.set_cons_succ]
  refine callL rfl (fun _ => by kernel_rfl) (times_any k (one 9) hk (byte_in' 9 (by decide) (by decide)) _ (hg.below K.below hg.size) (ht.below K.below hg.size)) ?_
  rintro e w1 ⟨f, rfl, s, l⟩
  replace K := K.call l
  clear l
  refine ⟨_, rfl, ?_⟩
  simp only [Act.put, List.setIfInBounds_toArray, List.set_cons_zero, List.set_cons_succ]
  refine storesL .u8 32 f (w.heap.size + 1) 23 _ _ rfl rfl rfl rfl (K.roomy _ _ _ List.mem_cons_self) (key_info' _) ?_
  simp only [Act.put]
  have HS := show Hid _ from s
  have hO := (K.room _ List.mem_cons_self).1
  have hL := (K.fill _ _ List.mem_cons_self (row .u8 32 f)).below
  clear K s
  show Exit.then _ _ _ _ _
  go_wp2
  exact bodyPost_ret (v := (.agg (row .u8 32 (f)).toArray)) (results_row Tryd.results9 rfl (Has.all hO .u8 f).range Tryd.underlying23 rfl (key_info _)) rfl ⟨f, rfl, HS.out, hL⟩

theorem or_byte (x y : Int) (hx : 0 ≤ x ∧ x < 256) (hy : 0 ≤ y ∧ y < 256) : (0 ≤ bits BinOp.or IntKind.u8 x y ∧ bits BinOp.or IntKind.u8 x y < 256) ∧ (bits BinOp.or IntKind.u8 x y = 0 ↔ (x = 0 ∧ y = 0)) := by
  obtain ⟨x, rfl⟩ := Int.eq_ofNat_of_zero_le hx.1
  obtain ⟨y, rfl⟩ := Int.eq_ofNat_of_zero_le hy.1
  rw [u8_or_nat x y (by omega) (by omega)]
  have hb : x ||| y < 2 ^ 8 := Nat.or_lt_two_pow (by omega) (by omega)
  have hz := @Nat.or_eq_zero_iff x y
  refine ⟨⟨by omega, by omega⟩, ⟨fun h => ?_, fun h => ?_⟩⟩
  · have := hz.1 (by omega); omega
  · have := hz.2 ⟨by omega, by omega⟩; omega

/-- A byte of a whole key. -/
theorem index_key (f : Nat → Int) (t : Nat) (h : t < 32) (w : World) : (Instr.index 23 (.agg (row .u8 32 f).toArray) (.int .i64 (t : Int))).run Tryd.prog w = .ok (.int .u8 (f t)) w := by
  have hs : ∀ w, (sizeOf 5).run Tryd.prog w = .ok 1 w := fun w => by kernel_rfl
  have ha : ∀ w, (isAgg 5).run Tryd.prog w = .ok false w := fun w => by kernel_rfl
  have hg := row_get .u8 32 f t h
  simp [Instr.index, run_underlying Tryd.underlying23, asIntOf, hs, ha, part, hg, h, go_sem]

theorem val_nought (f : Nat → Int) (hf : In 256 32 f) : val 256 f 32 = 0 ↔ ∀ j, j < 32 → f j = 0 := by
  constructor
  · intro h
    exact val_inj 256 (by decide) f (fun _ => 0) 32 hf (fun _ _ => ⟨Int.le_refl 0, (by decide : (0 : Int) < 256)⟩) (by rw [h]; decide +kernel)
  · intro h
    rw [val_congr 256 32 (g := fun _ => 0) h]
    decide +kernel

set_option maxRecDepth 10000 in
set_option maxHeartbeats 4000000 in
theorem shared_any (k u : Nat → Int) (hk : In 256 32 k) (hu : In 256 32 u) (w : World) (hg : Glob w) (ht : Trs w) :
    Calls Tryd.prog 10 #[(.agg (row .u8 32 (k)).toArray), (.agg (row .u8 32 (u)).toArray)] w fun e w' => ∃ f : Nat → Int, e = .returned (.tuple #[(.agg (row .u8 32 (f)).toArray), .int .i64 (if tm k u = 0 then 20 else 0)]) ∧ (In 256 32 f ∧ val 256 f 32 = ((tm k u).val : Int)) ∧ Below w.heap.size w w' := by
  have K := Kq.init w
  replace K := K.box 32 k 23 (w.heap.size) rfl
  replace K := K.box 32 u 23 (w.heap.size + 1) (by simp)
  replace K := K.make 32 #[.int .u8 0, .int .u8 0, .int .u8 0, .int .u8 0, .int .u8 0, .int .u8 0, .int .u8 0, .int .u8 0, .int .u8 0, .int .u8 0, .int .u8 0, .int .u8 0, .int .u8 0, .int .u8 0, .int .u8 0, .int .u8 0, .int .u8 0, .int .u8 0, .int .u8 0, .int .u8 0, .int .u8 0, .int .u8 0, .int .u8 0, .int .u8 0, .int .u8 0, .int .u8 0, .int .u8 0, .int .u8 0, .int .u8 0, .int .u8 0, .int .u8 0, .int .u8 0] 23 (w.heap.size + 1 + 1) (by simp) (key_zero _ _ _ (by simp)).there
  go_enter Tryd.func10, Tryd.ntmps10
  go_upto_region 1 with fail
  refine wp_region_list ?_
  refine rowAtL 32 k (w.heap.size) 0 23 _ _ rfl rfl rfl Tryd.underlying23 rfl (key_info _) (K.whole _ _ (List.mem_cons_of_mem _ List.mem_cons_self)) ?_
  simp only [Act.put, List.setIfInBounds_toArray, List.set_cons_zero, List.set_cons_succ]
  refine rowAtL 32 u (w.heap.size + 1) 0 23 _ _ rfl rfl rfl Tryd.underlying23 rfl (key_info _) (K.whole _ _ List.mem_cons_self) ?_
  simp only [Act.put, List.setIfInBounds_toArray, List.set_cons_zero, List.set_cons_succ]
  refine callL rfl (fun _ => by kernel_rfl) (times_any k u hk hu _ (hg.below K.below hg.size) (ht.below K.below hg.size)) ?_
  rintro e w1 ⟨f, rfl, s, l⟩
  replace K := K.call l
  clear l
  refine ⟨_, rfl, ?_⟩
  simp only [Act.put, List.setIfInBounds_toArray, List.set_cons_zero, List.set_cons_succ]
  refine allocL #[.int .u8 0, .int .u8 0, .int .u8 0, .int .u8 0, .int .u8 0, .int .u8 0, .int .u8 0, .int .u8 0, .int .u8 0, .int .u8 0, .int .u8 0, .int .u8 0, .int .u8 0, .int .u8 0, .int .u8 0, .int .u8 0, .int .u8 0, .int .u8 0, .int .u8 0, .int .u8 0, .int .u8 0, .int .u8 0, .int .u8 0, .int .u8 0, .int .u8 0, .int .u8 0, .int .u8 0, .int .u8 0, .int .u8 0, .int .u8 0, .int .u8 0, .int .u8 0] 23 rfl (fun _ => by kernel_rfl) ?_
  simp only [Act.put, List.setIfInBounds_toArray, List.set_cons_zero, List.set_cons_succ]
  refine storesL .u8 32 f (w1.heap.size) 23 _ _ rfl rfl rfl rfl (room_of (key_zero _ _ _ rfl).there) (key_info' _) ?_
  simp only [Act.put]
  replace K := K.fresh 32 f #[.int .u8 0, .int .u8 0, .int .u8 0, .int .u8 0, .int .u8 0, .int .u8 0, .int .u8 0, .int .u8 0, .int .u8 0, .int .u8 0, .int .u8 0, .int .u8 0, .int .u8 0, .int .u8 0, .int .u8 0, .int .u8 0, .int .u8 0, .int .u8 0, .int .u8 0, .int .u8 0, .int .u8 0, .int .u8 0, .int .u8 0, .int .u8 0, .int .u8 0, .int .u8 0, .int .u8 0, .int .u8 0, .int .u8 0, .int .u8 0, .int .u8 0, .int .u8 0] 23 (key_zero _ _ _ rfl).there
  generalize ((w1.alloc (.cells #[.int .u8 0, .int .u8 0, .int .u8 0, .int .u8 0, .int .u8 0, .int .u8 0, .int .u8 0, .int .u8 0, .int .u8 0, .int .u8 0, .int .u8 0, .int .u8 0, .int .u8 0, .int .u8 0, .int .u8 0, .int .u8 0, .int .u8 0, .int .u8 0, .int .u8 0, .int .u8 0, .int .u8 0, .int .u8 0, .int .u8 0, .int .u8 0, .int .u8 0, .int .u8 0, .int .u8 0, .int .u8 0, .int .u8 0, .int .u8 0, .int .u8 0, .int .u8 0] 23)).setCells w1.heap.size 0 (row .u8 32 f)) = w2 at K ⊢
  generalize w1.heap.size = B at *
  have hF := K.get B 32 f List.mem_cons_self
  have HS := show Hid _ from s
  have hO := (K.room _ List.mem_cons_self).1
  have hL := K.below
  have hL1 := (K.fill _ _ List.mem_cons_self (row .u8 32 f)).below
  have hL2 := (K.fill _ _ List.mem_cons_self (row .u8 32 (fun _ => 0))).below
  clear K s
  show Exit.then _ _ _ _ _
  go_wp2_with (refine wpList_load_mid rfl 23 _ rfl (B) 0 rfl (row .u8 32 (f)) _ (Has.range (hF)) Tryd.underlying23 rfl (key_info _) ?_)
  go_loopw [7, 14] (fun so i w' => ∃ (t : Nat) (x : Int), t ≤ 32 ∧ i = .int .i64 t ∧ so = .int .u8 x ∧ (0 ≤ x ∧ x < 256) ∧ (x = 0 ↔ ∀ j, j < t → f j = 0) ∧ w' = w2) (fun _ i _ => 32 - (intOf i).toNat)
  case atStart => exact ⟨0, 0, by omega, rfl, rfl, by omega, by simp, rfl⟩
  case round =>
    obtain ⟨t, x, h32, rfl, rfl, hx, hz, rfl⟩ := hrel
    by_cases hlt : t < 32
    · have hy := HS.out.1 t hlt
      have ho := or_byte x (f t) hx hy
      have HZ := show Hid _ from hz
      have hi := index_key f t hlt
      clear hz
      go_wp2
      refine ⟨⟨t + 1, _, by omega, by go_num, rfl, ho.1, ?_, trivial⟩, by simp [intOf]; omega⟩
      rw [ho.2, HZ.out]
      constructor
      · intro h j hj
        by_cases e : j = t
        · subst e; exact h.2
        · exact h.1 j (by omega)
      · intro h
        exact ⟨fun j hj => h j (by omega), h t (by omega)⟩
    · obtain rfl : t = 32 := by omega
      have hv := (val_nought f HS.out.1).trans hz.symm
      have hT : tm k u = 0 ↔ x = 0 := by
        rw [← hv, HS.out.2]
        constructor
        · intro h; rw [h]; rfl
        · intro h
          apply Fin.ext
          show (tm k u).val = 0
          omega
      by_cases h0 : x = 0
      · have hN : In 256 32 (fun _ => (0 : Int)) ∧ val 256 (fun _ => 0) 32 = ((tm k u).val : Int) := ⟨fun _ _ => ⟨Int.le_refl 0, (by decide : (0 : Int) < 256)⟩, by rw [hT.2 h0]; decide +kernel⟩
        have HT := show Hid (tm k u = 0) from hT.2 h0
        have HN := show Hid _ from hN
        clear hN hT hv hz hlt h32 hx
        subst h0
        go_wp2_with (refine wpList_store_mid rfl 23 _ _ rfl (w.heap.size + 1 + 1) 0 (row .u8 32 (fun _ => 0)).toArray rfl rfl (room_of hO) (key_info' _) (all_oneCell_toArray (row_one _ _ _)) ?_)
        exact bodyPost_ret (v := .tuple #[(.agg (row .u8 32 (fun _ => 0)).toArray), .int .i64 20]) (results_row_tmp Tryd.results10 rfl rfl (Has.all hO .u8 (fun _ => 0)).range Tryd.underlying23 rfl (key_info _)) rfl ⟨_, by first | rfl | rw [if_pos HT.out], by first | exact HN.out | (have h := HN.out; rw [HT.out] at h; exact h), hL2⟩
      · have he : (x == 0) = false := by simp [h0]
        have HT := show Hid (¬ tm k u = 0) from fun h => h0 (hT.1 h)
        clear hT hv hz hlt h32 hx h0
        go_wp2_with (first | (refine wpList_load_mid rfl 23 _ rfl (B) 0 rfl (row .u8 32 (f)) _ (Has.range (hF)) Tryd.underlying23 rfl (key_info _) ?_) | (refine wpList_store_mid rfl 23 _ _ rfl (w.heap.size + 1 + 1) 0 (row .u8 32 f).toArray rfl rfl (room_of hO) (key_info' _) (all_oneCell_toArray (row_one _ _ _)) ?_))
        exact bodyPost_ret (v := .tuple #[(.agg (row .u8 32 (f)).toArray), .int .i64 0]) (results_row_tmp Tryd.results10 rfl rfl (Has.all hO .u8 f).range Tryd.underlying23 rfl (key_info _)) rfl ⟨_, by first | rfl | rw [if_neg HT.out], HS.out, hL1⟩
end Go.Proofs.YthephehecapmhabDoor
