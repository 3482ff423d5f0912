/- What the statement's function answers, whatever the bytes: true. -/
import Derived.Test.YthephehecapmhabDoorShown2
import Derived.Test.YthephehecapmhabDoorAgree
import Derived.Test.YthephehecapmhabDoorRefCanon
import Derived.Deep.Cut
namespace Go.Proofs.YthephehecapmhabDoor
open Go.RowKit

theorem xor128_8 : ∀ x : Fin 256, bits BinOp.xor IntKind.u8 (x.val : Int) 128 = ((x.val : Int) + 128) % 256 := by decide +kernel
theorem xor128 (x : Int) (h : 0 ≤ x ∧ x < 256) : bits BinOp.xor IntKind.u8 x 128 = (x + 128) % 256 := by
  obtain ⟨n, rfl⟩ := Int.eq_ofNat_of_zero_le h.1
  exact xor128_8 ⟨n, by omega⟩
theorem high_in (u : Nat → Int) (h : In 256 32 u) : In 256 32 (upd u 31 ((u 31 + 128) % 256)) := h.upd 31 _ (by omega) (by omega)
theorem tm_trim (k u : Nat → Int) : tm (trim k) u = tm k u := by
  unfold tm
  rw [show trim (trim k) = trim k from funext (trim_trim k)]
theorem tm_high (k u : Nat → Int) : tm k (upd u 31 ((u 31 + 128) % 256)) = tm k u := by
  unfold tm
  rw [show mask (upd u 31 ((u 31 + 128) % 256)) = mask u from funext fun j => by
    unfold mask
    by_cases e : j = 31
    · subst e; rw [upd_same, upd_same, upd_same]; omega
    · rw [upd_other _ _ _ _ e, upd_other _ _ _ _ e, upd_other _ _ _ _ e]]
theorem tm_low (k u f : Nat → Int) (hf : In 256 32 f) (h : val 256 f 32 = val 256 (mask u) 32 % Q) : tm k f = tm k u := by
  have e : val 256 f 32 = ((kz (mask u)).val : Int) := by unfold kz; rw [fz_val, h]
  rw [tm_of k f _ hf e]
  rfl
theorem val_mod (x : Fin QN) : (x.val : Int) % Q = (x.val : Int) := by
  have := x.isLt
  rw [Q_QN]
  exact Int.emod_eq_of_lt (by omega) (by omega)
theorem Kp.poke {w w' : World} {b : Nat} {f : Nat → Int} {l : List (Nat × (Nat → Int))} (h : Kp w ((b, f) :: l) w') (hl : ∀ p ∈ l, p.1 < b) (hm : w.heap.size ≤ b) (i : Nat) (hi : i < 32) (x : Int) :
    Kp w ((b, upd f i x) :: l) (w'.setCell ⟨b, i, none⟩ (.int .u8 x)) :=
  ⟨fun p hp => by
    have hs : (w'.setCell ⟨b, i, none⟩ (.int .u8 x)).heap.size = w'.heap.size := by simp
    rw [hs]
    rcases List.mem_cons.1 hp with rfl | hp
    · exact ⟨(h.rows (b, f) List.mem_cons_self).1.set i hi x, (h.rows (b, f) List.mem_cons_self).2⟩
    · have hr := h.rows p (List.mem_cons_of_mem _ hp)
      exact ⟨hr.1.set_other _ _ (by have := hl p hp; simp only; omega), hr.2⟩, h.below.setCell (by simpa using hm) _⟩

set_option maxRecDepth 10000 in
set_option maxHeartbeats 4000000 in
theorem law_LadderBits (k u : Nat → Int) (hk : In 256 32 k) (hu : In 256 32 u) (w : World) (hg : Glob w) (ht : Trs w) :
    Calls Tryd.prog 3 #[(.agg (row .u8 32 (k)).toArray), (.agg (row .u8 32 (u)).toArray)] w fun e w' => e = .returned (.bool true) ∧ Below w.heap.size w w' := by
  have K := Kp.init w
  have K := K.box k 23 (w.heap.size) rfl
  have K := K.box u 23 (w.heap.size + 1) (by simp)
  go_enter Tryd.func3, Tryd.ntmps3
  go_upto_region 1 with fail
  refine wp_region_list ?_
  refine callL rfl (fun _ => by kernel_rfl) (shown_any _ (hg.below K.below hg.size) (ht.below K.below hg.size)) ?_
  rintro e w1 ⟨rfl, l⟩
  have K := K.call l
  clear l
  refine ⟨_, rfl, ?_⟩
  simp only [Act.put, List.setIfInBounds_toArray, List.set_cons_zero, List.set_cons_succ]
  refine pureL (.bool true) rfl (fun _ => by kernel_rfl) ?_
  simp only [Act.put, List.setIfInBounds_toArray, List.set_cons_zero, List.set_cons_succ]
  show Exit.then _ _ _ _ _
  go_upto_region 2 with fail
  refine wp_region_list ?_
  refine rowL .u8 32 (k) (w.heap.size) 23 _ _ rfl rfl rfl Tryd.underlying23 rfl (key_info _) (K.get _ _ (List.mem_cons_of_mem _ List.mem_cons_self)) ?_
  simp only [Act.put, List.setIfInBounds_toArray, List.set_cons_zero, List.set_cons_succ]
  refine rowL .u8 32 (u) (w.heap.size + 1) 23 _ _ rfl rfl rfl Tryd.underlying23 rfl (key_info _) (K.get _ _ List.mem_cons_self) ?_
  simp only [Act.put, List.setIfInBounds_toArray, List.set_cons_zero, List.set_cons_succ]
  refine callL rfl (fun _ => by kernel_rfl) (times_any (k) (u) (hk) (hu) _ (hg.below K.below hg.size) (ht.below K.below hg.size)) ?_
  rintro e w2 ⟨f1, rfl, s1, l⟩
  have K := K.call l
  clear l
  refine ⟨_, rfl, ?_⟩
  simp only [Act.put, List.setIfInBounds_toArray, List.set_cons_zero, List.set_cons_succ]
  refine allocL #[.int .u8 0, .int .u8 0, .int .u8 0, .int .u8 0, .int .u8 0, .int .u8 0, .int .u8 0, .int .u8 0, .int .u8 0, .int .u8 0, .int .u8 0, .int .u8 0, .int .u8 0, .int .u8 0, .int .u8 0, .int .u8 0, .int .u8 0, .int .u8 0, .int .u8 0, .int .u8 0, .int .u8 0, .int .u8 0, .int .u8 0, .int .u8 0, .int .u8 0, .int .u8 0, .int .u8 0, .int .u8 0, .int .u8 0, .int .u8 0, .int .u8 0, .int .u8 0] 23 rfl (fun _ => by kernel_rfl) ?_
  simp only [Act.put, List.setIfInBounds_toArray, List.set_cons_zero, List.set_cons_succ]
  refine storesL .u8 32 (f1) (w2.heap.size) 23 _ _ rfl rfl rfl rfl (key_there (key_zero _ _ _ rfl)) (key_info' _) ?_
  have q2 := fun p hp => (K.rows p hp).2
  have z2 := K.below.size
  have K := K.fresh (f1) #[.int .u8 0, .int .u8 0, .int .u8 0, .int .u8 0, .int .u8 0, .int .u8 0, .int .u8 0, .int .u8 0, .int .u8 0, .int .u8 0, .int .u8 0, .int .u8 0, .int .u8 0, .int .u8 0, .int .u8 0, .int .u8 0, .int .u8 0, .int .u8 0, .int .u8 0, .int .u8 0, .int .u8 0, .int .u8 0, .int .u8 0, .int .u8 0, .int .u8 0, .int .u8 0, .int .u8 0, .int .u8 0, .int .u8 0, .int .u8 0, .int .u8 0, .int .u8 0] 23 (key_zero _ _ _ rfl)
  simp only [Act.put]
  generalize ((w2.alloc (.cells #[.int .u8 0, .int .u8 0, .int .u8 0, .int .u8 0, .int .u8 0, .int .u8 0, .int .u8 0, .int .u8 0, .int .u8 0, .int .u8 0, .int .u8 0, .int .u8 0, .int .u8 0, .int .u8 0, .int .u8 0, .int .u8 0, .int .u8 0, .int .u8 0, .int .u8 0, .int .u8 0, .int .u8 0, .int .u8 0, .int .u8 0, .int .u8 0, .int .u8 0, .int .u8 0, .int .u8 0, .int .u8 0, .int .u8 0, .int .u8 0, .int .u8 0, .int .u8 0] 23)).setCells w2.heap.size 0 (row .u8 32 (f1))) = w3 at K ⊢
  show Exit.then _ _ _ _ _
  go_upto_region 3 with fail
  refine wp_region_list ?_
  refine rowL .u8 32 (u) (w.heap.size + 1) 23 _ _ rfl rfl rfl Tryd.underlying23 rfl (key_info _) (K.get _ _ (List.mem_cons_of_mem _ List.mem_cons_self)) ?_
  simp only [Act.put, List.setIfInBounds_toArray, List.set_cons_zero, List.set_cons_succ]
  refine allocL #[.int .u8 0, .int .u8 0, .int .u8 0, .int .u8 0, .int .u8 0, .int .u8 0, .int .u8 0, .int .u8 0, .int .u8 0, .int .u8 0, .int .u8 0, .int .u8 0, .int .u8 0, .int .u8 0, .int .u8 0, .int .u8 0, .int .u8 0, .int .u8 0, .int .u8 0, .int .u8 0, .int .u8 0, .int .u8 0, .int .u8 0, .int .u8 0, .int .u8 0, .int .u8 0, .int .u8 0, .int .u8 0, .int .u8 0, .int .u8 0, .int .u8 0, .int .u8 0] 23 rfl (fun _ => by kernel_rfl) ?_
  simp only [Act.put, List.setIfInBounds_toArray, List.set_cons_zero, List.set_cons_succ]
  refine storesL .u8 32 (u) (w3.heap.size) 23 _ _ rfl rfl rfl rfl (key_there (key_zero _ _ _ rfl)) (key_info' _) ?_
  have q3 := fun p hp => (K.rows p hp).2
  have z3 := K.below.size
  have K := K.fresh (u) #[.int .u8 0, .int .u8 0, .int .u8 0, .int .u8 0, .int .u8 0, .int .u8 0, .int .u8 0, .int .u8 0, .int .u8 0, .int .u8 0, .int .u8 0, .int .u8 0, .int .u8 0, .int .u8 0, .int .u8 0, .int .u8 0, .int .u8 0, .int .u8 0, .int .u8 0, .int .u8 0, .int .u8 0, .int .u8 0, .int .u8 0, .int .u8 0, .int .u8 0, .int .u8 0, .int .u8 0, .int .u8 0, .int .u8 0, .int .u8 0, .int .u8 0, .int .u8 0] 23 (key_zero _ _ _ rfl)
  simp only [Act.put]
  generalize ((w3.alloc (.cells #[.int .u8 0, .int .u8 0, .int .u8 0, .int .u8 0, .int .u8 0, .int .u8 0, .int .u8 0, .int .u8 0, .int .u8 0, .int .u8 0, .int .u8 0, .int .u8 0, .int .u8 0, .int .u8 0, .int .u8 0, .int .u8 0, .int .u8 0, .int .u8 0, .int .u8 0, .int .u8 0, .int .u8 0, .int .u8 0, .int .u8 0, .int .u8 0, .int .u8 0, .int .u8 0, .int .u8 0, .int .u8 0, .int .u8 0, .int .u8 0, .int .u8 0, .int .u8 0] 23)).setCells w3.heap.size 0 (row .u8 32 (u))) = w4 at K ⊢
  show Exit.then _ _ _ _ _
  have U := K.get _ _ List.mem_cons_self
  have c31 := U.cell 31 (by omega)
  have f31 := U.free 31 (by omega)
  have e31 := xor128 (u 31) (hu 31 (by omega))
  replace K := K.poke q3 (Nat.le_trans z3 (Nat.le_refl _)) 31 (by omega) ((u 31 + 128) % 256)
  clear U
  go_upto_region 5 with fail
  clear e31 c31 f31
  generalize (w4.setCell ⟨w3.heap.size, 31, none⟩ (.int .u8 ((u 31 + 128) % 256))) = w5 at K ⊢
  replace K : Kp w ([(w3.heap.size, upd u 31 ((u 31 + 128) % 256)), (w2.heap.size, f1), (w.heap.size + 1, u), (w.heap.size, k)]) w5 := K
  refine wp_region_list ?_
  refine rowL .u8 32 (u) (w.heap.size + 1) 23 _ _ rfl rfl rfl Tryd.underlying23 rfl (key_info _) (K.get _ _ (List.mem_cons_of_mem _ (List.mem_cons_of_mem _ List.mem_cons_self))) ?_
  simp only [Act.put, List.setIfInBounds_toArray, List.set_cons_zero, List.set_cons_succ]
  refine allocL #[.int .u8 0, .int .u8 0, .int .u8 0, .int .u8 0, .int .u8 0, .int .u8 0, .int .u8 0, .int .u8 0, .int .u8 0, .int .u8 0, .int .u8 0, .int .u8 0, .int .u8 0, .int .u8 0, .int .u8 0, .int .u8 0, .int .u8 0, .int .u8 0, .int .u8 0, .int .u8 0, .int .u8 0, .int .u8 0, .int .u8 0, .int .u8 0, .int .u8 0, .int .u8 0, .int .u8 0, .int .u8 0, .int .u8 0, .int .u8 0, .int .u8 0, .int .u8 0] 23 rfl (fun _ => by kernel_rfl) ?_
  simp only [Act.put, List.setIfInBounds_toArray, List.set_cons_zero, List.set_cons_succ]
  refine storesL .u8 32 (u) (w5.heap.size) 23 _ _ rfl rfl rfl rfl (key_there (key_zero _ _ _ rfl)) (key_info' _) ?_
  have q4 := fun p hp => (K.rows p hp).2
  have z4 := K.below.size
  have K := K.fresh (u) #[.int .u8 0, .int .u8 0, .int .u8 0, .int .u8 0, .int .u8 0, .int .u8 0, .int .u8 0, .int .u8 0, .int .u8 0, .int .u8 0, .int .u8 0, .int .u8 0, .int .u8 0, .int .u8 0, .int .u8 0, .int .u8 0, .int .u8 0, .int .u8 0, .int .u8 0, .int .u8 0, .int .u8 0, .int .u8 0, .int .u8 0, .int .u8 0, .int .u8 0, .int .u8 0, .int .u8 0, .int .u8 0, .int .u8 0, .int .u8 0, .int .u8 0, .int .u8 0] 23 (key_zero _ _ _ rfl)
  simp only [Act.put]
  generalize ((w5.alloc (.cells #[.int .u8 0, .int .u8 0, .int .u8 0, .int .u8 0, .int .u8 0, .int .u8 0, .int .u8 0, .int .u8 0, .int .u8 0, .int .u8 0, .int .u8 0, .int .u8 0, .int .u8 0, .int .u8 0, .int .u8 0, .int .u8 0, .int .u8 0, .int .u8 0, .int .u8 0, .int .u8 0, .int .u8 0, .int .u8 0, .int .u8 0, .int .u8 0, .int .u8 0, .int .u8 0, .int .u8 0, .int .u8 0, .int .u8 0, .int .u8 0, .int .u8 0, .int .u8 0] 23)).setCells w5.heap.size 0 (row .u8 32 (u))) = w6 at K ⊢
  show Exit.then _ _ _ _ _
  have U := K.get _ _ List.mem_cons_self
  have c31 := U.cell 31 (by omega)
  have f31 := U.free 31 (by omega)
  have e31 := and127 (u 31) (hu 31 (by omega))
  replace K := K.poke q4 (Nat.le_trans z4 (Nat.le_refl _)) 31 (by omega) (u 31 % 128)
  clear U
  go_upto_region 7 with fail
  clear e31 c31 f31
  generalize (w6.setCell ⟨w5.heap.size, 31, none⟩ (.int .u8 (u 31 % 128))) = w7 at K ⊢
  replace K : Kp w ([(w5.heap.size, mask u), (w3.heap.size, upd u 31 ((u 31 + 128) % 256)), (w2.heap.size, f1), (w.heap.size + 1, u), (w.heap.size, k)]) w7 := K
  refine wp_region_held_drew (S := fun w' => Kp w ([(w5.heap.size, mask u), (w3.heap.size, upd u 31 ((u 31 + 128) % 256)), (w2.heap.size, f1), (w.heap.size + 1, u), (w.heap.size, k)]) w') (by kernel_rfl) K.drew ?_
  intro K
  refine pureH (i := 0) (some 23) rfl (.bool true) rfl rfl (fun _ => by kernel_rfl) (by kernel_rfl) (by kernel_rfl) (by kernel_rfl) (fun _ _ _ h => h) K ?_
  simp only [Act.put, List.setIfInBounds_toArray, List.set_cons_zero, List.set_cons_succ]
  refine pureH (i := 1) (some 24) rfl (.bool true) rfl rfl (fun _ => by kernel_rfl) (by kernel_rfl) (by kernel_rfl) (by kernel_rfl) (fun _ _ _ h => h) K ?_
  simp only [Act.put, List.setIfInBounds_toArray, List.set_cons_zero, List.set_cons_succ]
  refine rowH (i := 2) (some 25) rfl .u8 32 (k) (w.heap.size) 23 _ _ rfl rfl rfl rfl (by kernel_rfl) (by kernel_rfl) (by kernel_rfl) (fun _ _ _ h => h) Tryd.underlying23 rfl (key_info _) K (fun _ h => h.get _ _ (List.mem_cons_of_mem _ (List.mem_cons_of_mem _ (List.mem_cons_of_mem _ (List.mem_cons_of_mem _ List.mem_cons_self))))) ?_
  simp only [Act.put, List.setIfInBounds_toArray, List.set_cons_zero, List.set_cons_succ]
  refine rowH (i := 4) (some 27) rfl .u8 32 (u) (w.heap.size + 1) 23 _ _ rfl rfl rfl rfl (by kernel_rfl) (by kernel_rfl) (by kernel_rfl) (fun _ _ _ h => h) Tryd.underlying23 rfl (key_info _) K (fun _ h => h.get _ _ (List.mem_cons_of_mem _ (List.mem_cons_of_mem _ (List.mem_cons_of_mem _ List.mem_cons_self)))) ?_
  simp only [Act.put, List.setIfInBounds_toArray, List.set_cons_zero, List.set_cons_succ]
  refine rowH (i := 6) (some 29) rfl .u8 32 (f1) (w2.heap.size) 23 _ _ rfl rfl rfl rfl (by kernel_rfl) (by kernel_rfl) (by kernel_rfl) (fun _ _ _ h => h) Tryd.underlying23 rfl (key_info _) K (fun _ h => h.get _ _ (List.mem_cons_of_mem _ (List.mem_cons_of_mem _ List.mem_cons_self))) ?_
  simp only [Act.put, List.setIfInBounds_toArray, List.set_cons_zero, List.set_cons_succ]
  refine callH (i := 3) (some 26) rfl (by kernel_rfl) rfl rfl (fun _ => by kernel_rfl) (trim_any (k) (hk) _ (ht.below K.below hg.size) (Nat.le_trans hg.size K.below.size)) ?_
  rintro e w8 ⟨rfl, l⟩
  have K := K.call l
  clear l
  refine ⟨_, rfl, K, ?_⟩
  simp only [Act.put, List.setIfInBounds_toArray, List.set_cons_zero, List.set_cons_succ]
  refine callH (i := 5) (some 28) rfl (by kernel_rfl) rfl rfl (fun _ => by kernel_rfl) (times_any (trim (k)) (u) (trim_in _ (hk)) (hu) _ (hg.below K.below hg.size) (ht.below K.below hg.size)) ?_
  rintro e w9 ⟨f2, rfl, s2, l⟩
  have K := K.call l
  clear l
  refine ⟨_, rfl, K, ?_⟩
  simp only [Act.put, List.setIfInBounds_toArray, List.set_cons_zero, List.set_cons_succ]
  refine pureH (i := 7) (some 30) rfl (.bool true) rfl rfl (fun w => eqlV 32 (f2) (f1) 23 5 _ _ _ rfl rfl rfl Tryd.underlying23 Tryd.underlying5 (fun _ => by kernel_rfl) (by kernel_rfl) (s2.1) (s1.1) true (decide_eq_true (by rw [s2.2, s1.2, tm_trim])) w) (by kernel_rfl) (by kernel_rfl) (by kernel_rfl) (fun _ _ _ h => h) K ?_
  simp only [Act.put, List.setIfInBounds_toArray, List.set_cons_zero, List.set_cons_succ]
  refine pureH (i := 8) (some 31) rfl (.bool true) rfl rfl (fun _ => by kernel_rfl) (by kernel_rfl) (by kernel_rfl) (by kernel_rfl) (fun _ _ _ h => h) K ?_
  simp only [Act.put, List.setIfInBounds_toArray, List.set_cons_zero, List.set_cons_succ]
  refine pureH (i := 9) (some 32) rfl (.bool true) rfl rfl (fun _ => by kernel_rfl) (by kernel_rfl) (by kernel_rfl) (by kernel_rfl) (fun _ _ _ h => h) K ?_
  simp only [Act.put, List.setIfInBounds_toArray, List.set_cons_zero, List.set_cons_succ]
  refine rowH (i := 10) (some 33) rfl .u8 32 (k) (w.heap.size) 23 _ _ rfl rfl rfl rfl (by kernel_rfl) (by kernel_rfl) (by kernel_rfl) (fun _ _ _ h => h) Tryd.underlying23 rfl (key_info _) K (fun _ h => h.get _ _ (List.mem_cons_of_mem _ (List.mem_cons_of_mem _ (List.mem_cons_of_mem _ (List.mem_cons_of_mem _ List.mem_cons_self))))) ?_
  simp only [Act.put, List.setIfInBounds_toArray, List.set_cons_zero, List.set_cons_succ]
  refine rowH (i := 11) (some 34) rfl .u8 32 (upd u 31 ((u 31 + 128) % 256)) (w3.heap.size) 23 _ _ rfl rfl rfl rfl (by kernel_rfl) (by kernel_rfl) (by kernel_rfl) (fun _ _ _ h => h) Tryd.underlying23 rfl (key_info _) K (fun _ h => h.get _ _ (List.mem_cons_of_mem _ List.mem_cons_self)) ?_
  simp only [Act.put, List.setIfInBounds_toArray, List.set_cons_zero, List.set_cons_succ]
  refine rowH (i := 13) (some 36) rfl .u8 32 (f1) (w2.heap.size) 23 _ _ rfl rfl rfl rfl (by kernel_rfl) (by kernel_rfl) (by kernel_rfl) (fun _ _ _ h => h) Tryd.underlying23 rfl (key_info _) K (fun _ h => h.get _ _ (List.mem_cons_of_mem _ (List.mem_cons_of_mem _ List.mem_cons_self))) ?_
  simp only [Act.put, List.setIfInBounds_toArray, List.set_cons_zero, List.set_cons_succ]
  refine callH (i := 12) (some 35) rfl (by kernel_rfl) rfl rfl (fun _ => by kernel_rfl) (times_any (k) (upd u 31 ((u 31 + 128) % 256)) (hk) (high_in u hu) _ (hg.below K.below hg.size) (ht.below K.below hg.size)) ?_
  rintro e w10 ⟨f3, rfl, s3, l⟩
  have K := K.call l
  clear l
  refine ⟨_, rfl, K, ?_⟩
  simp only [Act.put, List.setIfInBounds_toArray, List.set_cons_zero, List.set_cons_succ]
  refine pureH (i := 14) (some 37) rfl (.bool true) rfl rfl (fun w => eqlV 32 (f3) (f1) 23 5 _ _ _ rfl rfl rfl Tryd.underlying23 Tryd.underlying5 (fun _ => by kernel_rfl) (by kernel_rfl) (s3.1) (s1.1) true (decide_eq_true (by rw [s3.2, s1.2, tm_high])) w) (by kernel_rfl) (by kernel_rfl) (by kernel_rfl) (fun _ _ _ h => h) K ?_
  simp only [Act.put, List.setIfInBounds_toArray, List.set_cons_zero, List.set_cons_succ]
  refine pureH (i := 15) (some 38) rfl (.bool true) rfl rfl (fun _ => by kernel_rfl) (by kernel_rfl) (by kernel_rfl) (by kernel_rfl) (fun _ _ _ h => h) K ?_
  simp only [Act.put, List.setIfInBounds_toArray, List.set_cons_zero, List.set_cons_succ]
  refine pureH (i := 16) (some 39) rfl (.bool true) rfl rfl (fun _ => by kernel_rfl) (by kernel_rfl) (by kernel_rfl) (by kernel_rfl) (fun _ _ _ h => h) K ?_
  simp only [Act.put, List.setIfInBounds_toArray, List.set_cons_zero, List.set_cons_succ]
  refine rowH (i := 17) (some 40) rfl .u8 32 (k) (w.heap.size) 23 _ _ rfl rfl rfl rfl (by kernel_rfl) (by kernel_rfl) (by kernel_rfl) (fun _ _ _ h => h) Tryd.underlying23 rfl (key_info _) K (fun _ h => h.get _ _ (List.mem_cons_of_mem _ (List.mem_cons_of_mem _ (List.mem_cons_of_mem _ (List.mem_cons_of_mem _ List.mem_cons_self))))) ?_
  simp only [Act.put, List.setIfInBounds_toArray, List.set_cons_zero, List.set_cons_succ]
  refine rowH (i := 18) (some 41) rfl .u8 32 (mask u) (w5.heap.size) 23 _ _ rfl rfl rfl rfl (by kernel_rfl) (by kernel_rfl) (by kernel_rfl) (fun _ _ _ h => h) Tryd.underlying23 rfl (key_info _) K (fun _ h => h.get _ _ List.mem_cons_self) ?_
  simp only [Act.put, List.setIfInBounds_toArray, List.set_cons_zero, List.set_cons_succ]
  refine rowH (i := 21) (some 44) rfl .u8 32 (f1) (w2.heap.size) 23 _ _ rfl rfl rfl rfl (by kernel_rfl) (by kernel_rfl) (by kernel_rfl) (fun _ _ _ h => h) Tryd.underlying23 rfl (key_info _) K (fun _ h => h.get _ _ (List.mem_cons_of_mem _ (List.mem_cons_of_mem _ List.mem_cons_self))) ?_
  simp only [Act.put, List.setIfInBounds_toArray, List.set_cons_zero, List.set_cons_succ]
  refine callH (i := 19) (some 42) rfl (by kernel_rfl) rfl rfl (fun _ => by kernel_rfl) (refCanon_any (mask u) (mask_in u hu) _) ?_
  rintro e w11 ⟨f4, rfl, s4, l⟩
  have K := K.call l
  clear l
  refine ⟨_, rfl, K, ?_⟩
  simp only [Act.put, List.setIfInBounds_toArray, List.set_cons_zero, List.set_cons_succ]
  refine callH (i := 20) (some 43) rfl (by kernel_rfl) rfl rfl (fun _ => by kernel_rfl) (times_any (k) (f4) (hk) (s4.1) _ (hg.below K.below hg.size) (ht.below K.below hg.size)) ?_
  rintro e w12 ⟨f5, rfl, s5, l⟩
  have K := K.call l
  clear l
  refine ⟨_, rfl, K, ?_⟩
  simp only [Act.put, List.setIfInBounds_toArray, List.set_cons_zero, List.set_cons_succ]
  refine pureH (i := 22) (some 45) rfl (.bool true) rfl rfl (fun w => eqlV 32 (f5) (f1) 23 5 _ _ _ rfl rfl rfl Tryd.underlying23 Tryd.underlying5 (fun _ => by kernel_rfl) (by kernel_rfl) (s5.1) (s1.1) true (decide_eq_true (by rw [s5.2, s1.2, tm_low k u f4 s4.1 s4.2])) w) (by kernel_rfl) (by kernel_rfl) (by kernel_rfl) (fun _ _ _ h => h) K ?_
  simp only [Act.put, List.setIfInBounds_toArray, List.set_cons_zero, List.set_cons_succ]
  refine pureH (i := 23) (some 46) rfl (.bool true) rfl rfl (fun _ => by kernel_rfl) (by kernel_rfl) (by kernel_rfl) (by kernel_rfl) (fun _ _ _ h => h) K ?_
  simp only [Act.put, List.setIfInBounds_toArray, List.set_cons_zero, List.set_cons_succ]
  refine pureH (i := 24) (some 47) rfl (.bool true) rfl rfl (fun _ => by kernel_rfl) (by kernel_rfl) (by kernel_rfl) (by kernel_rfl) (fun _ _ _ h => h) K ?_
  simp only [Act.put, List.setIfInBounds_toArray, List.set_cons_zero, List.set_cons_succ]
  refine rowH (i := 25) (some 48) rfl .u8 32 (f1) (w2.heap.size) 23 _ _ rfl rfl rfl rfl (by kernel_rfl) (by kernel_rfl) (by kernel_rfl) (fun _ _ _ h => h) Tryd.underlying23 rfl (key_info _) K (fun _ h => h.get _ _ (List.mem_cons_of_mem _ (List.mem_cons_of_mem _ List.mem_cons_self))) ?_
  simp only [Act.put, List.setIfInBounds_toArray, List.set_cons_zero, List.set_cons_succ]
  refine rowH (i := 27) (some 50) rfl .u8 32 (f1) (w2.heap.size) 23 _ _ rfl rfl rfl rfl (by kernel_rfl) (by kernel_rfl) (by kernel_rfl) (fun _ _ _ h => h) Tryd.underlying23 rfl (key_info _) K (fun _ h => h.get _ _ (List.mem_cons_of_mem _ (List.mem_cons_of_mem _ List.mem_cons_self))) ?_
  simp only [Act.put, List.setIfInBounds_toArray, List.set_cons_zero, List.set_cons_succ]
  refine callH (i := 26) (some 49) rfl (by kernel_rfl) rfl rfl (fun _ => by kernel_rfl) (refCanon_any (f1) (s1.1) _) ?_
  rintro e w13 ⟨f6, rfl, s6, l⟩
  have K := K.call l
  clear l
  refine ⟨_, rfl, K, ?_⟩
  simp only [Act.put, List.setIfInBounds_toArray, List.set_cons_zero, List.set_cons_succ]
  refine pureH (i := 28) (some 51) rfl (.bool true) rfl rfl (fun w => eqlV 32 (f6) (f1) 23 5 _ _ _ rfl rfl rfl Tryd.underlying23 Tryd.underlying5 (fun _ => by kernel_rfl) (by kernel_rfl) (s6.1) (s1.1) true (decide_eq_true (by rw [s6.2, s1.2]; exact val_mod _)) w) (by kernel_rfl) (by kernel_rfl) (by kernel_rfl) (fun _ _ _ h => h) K ?_
  simp only [Act.put, List.setIfInBounds_toArray, List.set_cons_zero, List.set_cons_succ]
  refine pureH (i := 29) (some 52) rfl (.bool true) rfl rfl (fun _ => by kernel_rfl) (by kernel_rfl) (by kernel_rfl) (by kernel_rfl) (fun _ _ _ h => h) K ?_
  simp only [Act.put, List.setIfInBounds_toArray, List.set_cons_zero, List.set_cons_succ]
  refine pureH (i := 30) (some 4) rfl (.bool true) rfl rfl (fun _ => by kernel_rfl) (by kernel_rfl) (by kernel_rfl) (by kernel_rfl) (fun _ _ _ h => h) K ?_
  simp only [Act.put, List.setIfInBounds_toArray, List.set_cons_zero, List.set_cons_succ]
  refine wpAnyH_done (by kernel_rfl) ?_ _
  go_wp2
  go_ret
  exact ⟨rfl, K.below⟩

end Go.Proofs.YthephehecapmhabDoor
