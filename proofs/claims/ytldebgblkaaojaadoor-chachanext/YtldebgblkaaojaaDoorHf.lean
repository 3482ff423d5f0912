/- What Block answers: 64 bytes of the stream. -/
import Derived.Test.YtldebgblkaaojaaDoorHd
import Derived.Test.YtldebgblkaaojaaDoorHe
import Derived.Test.YtldebgblkaaojaaDoorAr
namespace Go.Proofs.YtldebgblkaaojaaDoor
open Go.RowKit

theorem hcut_64 (b k : Nat) (hk : k < 16) (w : World) : (Instr.sliceAt 31 (.pointer (some ⟨b, 0, none⟩)) (some (.int .i64 (4 * (k : Int)))) none none).run Tryd.prog w = .ok (.slice (some ⟨b, 4 * k, none⟩) (64 - 4 * k) (64 - 4 * k)) w := by
  have hl : Tryd.prog.arrayLen 31 = 64 := by kernel_rfl
  have hs : ∀ w, (sizeOf (Tryd.prog.elem 31)).run Tryd.prog w = .ok 1 w := fun w => by kernel_rfl
  rw [run_sliceAt_array_l w 31 ⟨b, 0, none⟩ (by kernel_rfl) .i64 _ (by omega) (by rw [hl]; omega), hs, hl]
  simp only [Result.andThen, slicedAt]
  have e1 : (4 * (k : Int)).toNat = 4 * k := by omega
  rw [e1, if_neg (by omega), Addr.add_mid, Nat.zero_add, Nat.mul_one]
/-- The first i words' bytes are written. -/
def HO (k : Nat → Int) (c : Int) (n : Nat → Int) (O i : Nat) (g : Nat → Int) (w' : World) : Prop := Has w' O .u8 64 g ∧ ∀ j, j < 4 * i → g j = hblk k c n j
theorem over_hblk {k : Nat → Int} {c : Int} {n : Nat → Int} {i : Nat} {g : Nat → Int} (h : ∀ j, j < 4 * i → g j = hblk k c n j) (j : Nat) (hj : j < 4 * (i + 1)) : over g (4 * i) 4 (b32 (hwd k c n i)) j = hblk k c n j := by
  unfold over
  by_cases e : 4 * i ≤ j ∧ j < 4 * i + 4
  · rw [if_pos e]
    unfold hblk
    rw [show j / 4 = i by omega, show j % 4 = j - 4 * i by omega]
  · rw [if_neg e]; exact h j (by omega)

set_option maxRecDepth 10000 in
set_option maxHeartbeats 4000000 in
theorem hblock_any (k : Nat → Int) (c : Int) (n : Nat → Int) (hk : In 256 32 k) (hn : In 256 12 n) (w : World) (hg : HGlob w) :
    Calls Tryd.prog 12 #[(.agg (row .u8 32 (k)).toArray), .int .u32 c, (.agg (row .u8 12 (n)).toArray)] w fun e w' => e = .returned (.agg (row .u8 64 (hblk k c n)).toArray) ∧ Below w.heap.size w w' := by
  have K := Kr.init w
  replace K := K.box .u8 32 k 28 w.heap.size rfl
  replace K := K.box .u8 12 n 30 (w.heap.size + 1) (by simp)
  replace K := K.make 64 #[.int .u8 0, .int .u8 0, .int .u8 0, .int .u8 0, .int .u8 0, .int .u8 0, .int .u8 0, .int .u8 0, .int .u8 0, .int .u8 0, .int .u8 0, .int .u8 0, .int .u8 0, .int .u8 0, .int .u8 0, .int .u8 0, .int .u8 0, .int .u8 0, .int .u8 0, .int .u8 0, .int .u8 0, .int .u8 0, .int .u8 0, .int .u8 0, .int .u8 0, .int .u8 0, .int .u8 0, .int .u8 0, .int .u8 0, .int .u8 0, .int .u8 0, .int .u8 0, .int .u8 0, .int .u8 0, .int .u8 0, .int .u8 0, .int .u8 0, .int .u8 0, .int .u8 0, .int .u8 0, .int .u8 0, .int .u8 0, .int .u8 0, .int .u8 0, .int .u8 0, .int .u8 0, .int .u8 0, .int .u8 0, .int .u8 0, .int .u8 0, .int .u8 0, .int .u8 0, .int .u8 0, .int .u8 0, .int .u8 0, .int .u8 0, .int .u8 0, .int .u8 0, .int .u8 0, .int .u8 0, .int .u8 0, .int .u8 0, .int .u8 0, .int .u8 0] 31 (w.heap.size + 1 + 1) (by simp) (hb_zero _ _ _ (by simp)).there
  go_enter Tryd.func12, Tryd.ntmps12
  go_upto_region 1 with fail
  generalize (((w.alloc (.cells (row .u8 32 k).toArray 28)).alloc (.cells (row .u8 12 n).toArray 30)).alloc (.cells #[.int .u8 0, .int .u8 0, .int .u8 0, .int .u8 0, .int .u8 0, .int .u8 0, .int .u8 0, .int .u8 0, .int .u8 0, .int .u8 0, .int .u8 0, .int .u8 0, .int .u8 0, .int .u8 0, .int .u8 0, .int .u8 0, .int .u8 0, .int .u8 0, .int .u8 0, .int .u8 0, .int .u8 0, .int .u8 0, .int .u8 0, .int .u8 0, .int .u8 0, .int .u8 0, .int .u8 0, .int .u8 0, .int .u8 0, .int .u8 0, .int .u8 0, .int .u8 0, .int .u8 0, .int .u8 0, .int .u8 0, .int .u8 0, .int .u8 0, .int .u8 0, .int .u8 0, .int .u8 0, .int .u8 0, .int .u8 0, .int .u8 0, .int .u8 0, .int .u8 0, .int .u8 0, .int .u8 0, .int .u8 0, .int .u8 0, .int .u8 0, .int .u8 0, .int .u8 0, .int .u8 0, .int .u8 0, .int .u8 0, .int .u8 0, .int .u8 0, .int .u8 0, .int .u8 0, .int .u8 0, .int .u8 0, .int .u8 0, .int .u8 0, .int .u8 0] 31)) = w0 at K ⊢
  refine wp_region_list ?_
  refine rowKL .u8 32 k w.heap.size 0 28 _ _ rfl rfl rfl Tryd.underlying28 rfl (key_info _) (K.get _ _ _ _ (List.mem_cons_of_mem _ List.mem_cons_self)).range ?_
  simp only [Act.put, List.setIfInBounds_toArray, List.set_cons_zero, List.set_cons_succ]
  refine pureL (.int .u32 c) rfl (fun _ => by kernel_rfl) ?_
  simp only [Act.put, List.setIfInBounds_toArray, List.set_cons_zero, List.set_cons_succ]
  refine rowKL .u8 12 n (w.heap.size + 1) 0 30 _ _ rfl rfl rfl Tryd.underlying30 rfl (hn_info _) (K.get _ _ _ _ List.mem_cons_self).range ?_
  simp only [Act.put, List.setIfInBounds_toArray, List.set_cons_zero, List.set_cons_succ]
  refine callL rfl (fun _ => by kernel_rfl) (hbegin_any k c n hk hn _ (hg.below K.below hg.size)) ?_
  rintro e w1 ⟨rfl, l⟩
  replace K := K.call l
  clear l
  refine ⟨_, rfl, ?_⟩
  simp only [Act.put, List.setIfInBounds_toArray, List.set_cons_zero, List.set_cons_succ]
  refine allocL #[.int .u32 0, .int .u32 0, .int .u32 0, .int .u32 0, .int .u32 0, .int .u32 0, .int .u32 0, .int .u32 0, .int .u32 0, .int .u32 0, .int .u32 0, .int .u32 0, .int .u32 0, .int .u32 0, .int .u32 0, .int .u32 0] 47 rfl (fun _ => by kernel_rfl) ?_
  simp only [Act.put, List.setIfInBounds_toArray, List.set_cons_zero, List.set_cons_succ]
  refine storesL .u32 16 (hst k c n) w1.heap.size 47 _ _ rfl rfl rfl rfl (room_of (hs_zero _ _ _ rfl).there) (hs_info' _) ?_
  simp only [Act.put]
  have z1 := K.size
  replace K := K.fresh .u32 16 (hst k c n) #[.int .u32 0, .int .u32 0, .int .u32 0, .int .u32 0, .int .u32 0, .int .u32 0, .int .u32 0, .int .u32 0, .int .u32 0, .int .u32 0, .int .u32 0, .int .u32 0, .int .u32 0, .int .u32 0, .int .u32 0, .int .u32 0] 47 (hs_zero _ _ _ rfl).there
  generalize ((w1.alloc (.cells #[.int .u32 0, .int .u32 0, .int .u32 0, .int .u32 0, .int .u32 0, .int .u32 0, .int .u32 0, .int .u32 0, .int .u32 0, .int .u32 0, .int .u32 0, .int .u32 0, .int .u32 0, .int .u32 0, .int .u32 0, .int .u32 0] 47)).setCells w1.heap.size 0 (row .u32 16 (hst k c n))) = w2 at K ⊢
  generalize w1.heap.size = B at *
  clear w1 w0
  show Exit.then _ _ _ _ _
  go_upto_region 2 with fail
  refine wp_region_list ?_
  refine rowKL .u32 16 (hst k c n) B 0 47 _ _ rfl rfl rfl Tryd.underlying47 rfl (hs_info _) (K.get _ _ _ _ List.mem_cons_self).range ?_
  simp only [Act.put, List.setIfInBounds_toArray, List.set_cons_zero, List.set_cons_succ]
  refine allocL #[.int .u32 0, .int .u32 0, .int .u32 0, .int .u32 0, .int .u32 0, .int .u32 0, .int .u32 0, .int .u32 0, .int .u32 0, .int .u32 0, .int .u32 0, .int .u32 0, .int .u32 0, .int .u32 0, .int .u32 0, .int .u32 0] 47 rfl (fun _ => by kernel_rfl) ?_
  simp only [Act.put, List.setIfInBounds_toArray, List.set_cons_zero, List.set_cons_succ]
  refine storesL .u32 16 (hst k c n) w2.heap.size 47 _ _ rfl rfl rfl rfl (room_of (hs_zero _ _ _ rfl).there) (hs_info' _) ?_
  simp only [Act.put]
  have z2 := K.size
  replace K := K.fresh .u32 16 (hst k c n) #[.int .u32 0, .int .u32 0, .int .u32 0, .int .u32 0, .int .u32 0, .int .u32 0, .int .u32 0, .int .u32 0, .int .u32 0, .int .u32 0, .int .u32 0, .int .u32 0, .int .u32 0, .int .u32 0, .int .u32 0, .int .u32 0] 47 (hs_zero _ _ _ rfl).there
  generalize ((w2.alloc (.cells #[.int .u32 0, .int .u32 0, .int .u32 0, .int .u32 0, .int .u32 0, .int .u32 0, .int .u32 0, .int .u32 0, .int .u32 0, .int .u32 0, .int .u32 0, .int .u32 0, .int .u32 0, .int .u32 0, .int .u32 0, .int .u32 0] 47)).setCells w2.heap.size 0 (row .u32 16 (hst k c n))) = w3 at K ⊢
  generalize w2.heap.size = S at *
  clear w2
  show Exit.then _ _ _ _ _
  replace K := K.sub [(S, .u32, 16, hst k c n), (B, .u32, 16, hst k c n)] (fun p hp => by
    rcases List.mem_cons.1 hp with rfl | hp
    · exact List.mem_cons_self
    · rcases List.mem_cons.1 hp with rfl | hp
      · exact List.mem_cons_of_mem _ List.mem_cons_self
      · cases hp)
  go_wp2
  go_loopw [16] (fun i w' => ∃ t : Nat, t ≤ 10 ∧ i = .int .i64 t ∧ Kr w (S + 1) [(S, .u32, 16, drN (hst k c n) t), (B, .u32, 16, hst k c n)] [(w.heap.size + 1 + 1, 64)] w') (fun i _ => 10 - (intOf i).toNat)
  case atStart => exact ⟨0, by omega, rfl, K⟩
  case round =>
    clear K
    obtain ⟨t, ht, rfl, K⟩ := hrel
    have g1 : (0 : Int) ≤ (t : Int) := by omega
    by_cases hlt : t < 10
    · have g2 : (t : Int) < 10 := by omega
      go_upto_region 5 with fail
      refine wp_region_list ?_
      refine rowKL .u32 16 (drN (hst k c n) t) S 0 47 _ _ rfl rfl rfl Tryd.underlying47 rfl (hs_info _) (K.get _ _ _ _ List.mem_cons_self).range ?_
      simp only [Act.put, List.setIfInBounds_toArray, List.set_cons_zero, List.set_cons_succ]
      refine callL rfl (fun _ => by kernel_rfl) (hdouble_any (drN (hst k c n) t) _ (hg.below K.below hg.size)) ?_
      rintro e w4 ⟨rfl, l⟩
      replace K := K.call l
      clear l
      refine ⟨_, rfl, ?_⟩
      simp only [Act.put, List.setIfInBounds_toArray, List.set_cons_zero, List.set_cons_succ]
      refine storesL .u32 16 (tN (drN (hst k c n) t) 8) S 47 _ _ rfl rfl rfl rfl (hs_there (K.get _ _ _ _ List.mem_cons_self)) (hs_info' _) ?_
      simp only [Act.put]
      have HS := show Hid _ from K.set [(B, .u32, 16, hst k c n)] S .u32 16 (drN (hst k c n) t) (drN (hst k c n) (t + 1)) List.mem_cons_self (fun p hp => List.mem_cons_of_mem _ hp) (fun p hp => by obtain rfl := List.mem_singleton.1 hp; simp only; omega) (by have := K.base; omega)
      clear K
      show Exit.inBlock _ _ _ _ _
      go_wp2
      go_roundw
      case rel => exact ⟨t + 1, by omega, by go_num, HS.out⟩
      case measure => simp [intOf]; omega
    · obtain rfl : t = 10 := by omega
      clear ht hlt g1
      go_upto_region 8 with fail
      have z3 := K.size
      have H := hb_zero wr 31 wr.heap.size rfl
      replace K := K.make 64 #[.int .u8 0, .int .u8 0, .int .u8 0, .int .u8 0, .int .u8 0, .int .u8 0, .int .u8 0, .int .u8 0, .int .u8 0, .int .u8 0, .int .u8 0, .int .u8 0, .int .u8 0, .int .u8 0, .int .u8 0, .int .u8 0, .int .u8 0, .int .u8 0, .int .u8 0, .int .u8 0, .int .u8 0, .int .u8 0, .int .u8 0, .int .u8 0, .int .u8 0, .int .u8 0, .int .u8 0, .int .u8 0, .int .u8 0, .int .u8 0, .int .u8 0, .int .u8 0, .int .u8 0, .int .u8 0, .int .u8 0, .int .u8 0, .int .u8 0, .int .u8 0, .int .u8 0, .int .u8 0, .int .u8 0, .int .u8 0, .int .u8 0, .int .u8 0, .int .u8 0, .int .u8 0, .int .u8 0, .int .u8 0, .int .u8 0, .int .u8 0, .int .u8 0, .int .u8 0, .int .u8 0, .int .u8 0, .int .u8 0, .int .u8 0, .int .u8 0, .int .u8 0, .int .u8 0, .int .u8 0, .int .u8 0, .int .u8 0, .int .u8 0, .int .u8 0] 31 wr.heap.size rfl H.there
      generalize wr.alloc (.cells #[.int .u8 0, .int .u8 0, .int .u8 0, .int .u8 0, .int .u8 0, .int .u8 0, .int .u8 0, .int .u8 0, .int .u8 0, .int .u8 0, .int .u8 0, .int .u8 0, .int .u8 0, .int .u8 0, .int .u8 0, .int .u8 0, .int .u8 0, .int .u8 0, .int .u8 0, .int .u8 0, .int .u8 0, .int .u8 0, .int .u8 0, .int .u8 0, .int .u8 0, .int .u8 0, .int .u8 0, .int .u8 0, .int .u8 0, .int .u8 0, .int .u8 0, .int .u8 0, .int .u8 0, .int .u8 0, .int .u8 0, .int .u8 0, .int .u8 0, .int .u8 0, .int .u8 0, .int .u8 0, .int .u8 0, .int .u8 0, .int .u8 0, .int .u8 0, .int .u8 0, .int .u8 0, .int .u8 0, .int .u8 0, .int .u8 0, .int .u8 0, .int .u8 0, .int .u8 0, .int .u8 0, .int .u8 0, .int .u8 0, .int .u8 0, .int .u8 0, .int .u8 0, .int .u8 0, .int .u8 0, .int .u8 0, .int .u8 0, .int .u8 0, .int .u8 0] 31) = w5 at K H ⊢
      generalize wr.heap.size = O at *
      have H0 : HO k c n O 0 (fun _ => 0) w5 := ⟨H, fun j hj => by omega⟩
      clear H
      go_wp2
      go_loopw [21] (fun i w' => ∃ (i' : Nat) (g : Nat → Int), i' ≤ 16 ∧ i = .int .i64 i' ∧ Kr w (O + 1) [(S, .u32, 16, drN (hst k c n) 10), (B, .u32, 16, hst k c n)] [(O, 64), (w.heap.size + 1 + 1, 64)] w' ∧ HO k c n O i' g w') (fun i _ => 16 - (intOf i).toNat)
      case atStart => exact ⟨0, _, by omega, rfl, K, H0⟩
      case round =>
        clear K H0
        obtain ⟨i, g, hi, rfl, K, H, hd⟩ := hrel
        have g1 : (0 : Int) ≤ (i : Int) := by omega
        by_cases hlt : i < 16
        · have g2 : (i : Int) < 16 := by omega
          have HD := show Hid _ from fun j hj => over_hblk hd j hj
          clear hd
          go_upto_region 11 with fail
          refine wp_region_held_drew (S := fun w' => Kr w (O + 1) [(S, .u32, 16, drN (hst k c n) 10), (B, .u32, 16, hst k c n)] [(O, 64), (w.heap.size + 1 + 1, 64)] w') (by kernel_rfl) K.drew ?_
          clear K
          intro K
          replace H := H.drew
          refine pureH (i := 0) (some 24) rfl (.int .i64 (i : Int)) rfl rfl (fun _ => by kernel_rfl) (by kernel_rfl) (by kernel_rfl) (by kernel_rfl) (fun _ _ _ h => h) K ?_
          simp only [Act.put, List.setIfInBounds_toArray, List.set_cons_zero, List.set_cons_succ]
          refine pureH (i := 1) (some 25) rfl (.int .i64 (4 * (i : Int))) rfl rfl (fun w => mulI .i64 4 (i : Int) _ _ _ _ _ rfl rfl rfl (by rw [IntKind.wrap_i64]; omega) w) (by kernel_rfl) (by kernel_rfl) (by kernel_rfl) (fun _ _ _ h => h) K ?_
          simp only [Act.put, List.setIfInBounds_toArray, List.set_cons_zero, List.set_cons_succ]
          refine pureH (i := 2) (some 26) rfl (.slice (some ⟨O, 4 * i, none⟩) (64 - 4 * i) (64 - 4 * i)) rfl rfl (fun w => cutOp _ _ _ _ _ _ rfl rfl rfl (hcut_64 O i hlt w)) (by kernel_rfl) (by kernel_rfl) (by kernel_rfl) (fun _ _ _ h => h) K ?_
          simp only [Act.put, List.setIfInBounds_toArray, List.set_cons_zero, List.set_cons_succ]
          refine pureH (i := 3) (some 27) rfl (.int .i64 (i : Int)) rfl rfl (fun _ => by kernel_rfl) (by kernel_rfl) (by kernel_rfl) (by kernel_rfl) (fun _ _ _ h => h) K ?_
          simp only [Act.put, List.setIfInBounds_toArray, List.set_cons_zero, List.set_cons_succ]
          refine pureH (i := 4) (some 28) rfl (.pointer (some ⟨S, i, none⟩)) rfl rfl (fun w => idx16 S i hlt w _ _ rfl rfl rfl) (by kernel_rfl) (by kernel_rfl) (by kernel_rfl) (fun _ _ _ h => h) K ?_
          simp only [Act.put, List.setIfInBounds_toArray, List.set_cons_zero, List.set_cons_succ]
          refine cellH (i := 5) (some 29) rfl .u32 (.int .u32 (drN (hst k c n) 10 i)) S i 22 _ rfl rfl rfl rfl (by kernel_rfl) (by kernel_rfl) (by kernel_rfl) (fun _ _ _ h => h) Tryd.underlying22 K (fun _ h => (h.get _ _ _ _ List.mem_cons_self).cell i hlt) ?_
          simp only [Act.put, List.setIfInBounds_toArray, List.set_cons_zero, List.set_cons_succ]
          refine pureH (i := 6) (some 30) rfl (.int .i64 (i : Int)) rfl rfl (fun _ => by kernel_rfl) (by kernel_rfl) (by kernel_rfl) (by kernel_rfl) (fun _ _ _ h => h) K ?_
          simp only [Act.put, List.setIfInBounds_toArray, List.set_cons_zero, List.set_cons_succ]
          refine pureH (i := 7) (some 31) rfl (.pointer (some ⟨B, i, none⟩)) rfl rfl (fun w => idx16 B i hlt w _ _ rfl rfl rfl) (by kernel_rfl) (by kernel_rfl) (by kernel_rfl) (fun _ _ _ h => h) K ?_
          simp only [Act.put, List.setIfInBounds_toArray, List.set_cons_zero, List.set_cons_succ]
          refine cellH (i := 8) (some 32) rfl .u32 (.int .u32 (hst k c n i)) B i 22 _ rfl rfl rfl rfl (by kernel_rfl) (by kernel_rfl) (by kernel_rfl) (fun _ _ _ h => h) Tryd.underlying22 K (fun _ h => (h.get _ _ _ _ (List.mem_cons_of_mem _ List.mem_cons_self)).cell i hlt) ?_
          simp only [Act.put, List.setIfInBounds_toArray, List.set_cons_zero, List.set_cons_succ]
          refine pureH (i := 9) (some 33) rfl (.int .u32 (hwd k c n i)) rfl rfl (fun w => addI .u32 (drN (hst k c n) 10 i) (hst k c n i) _ _ _ _ _ rfl rfl rfl (by rw [IntKind.wrap_u32']; rfl) w) (by kernel_rfl) (by kernel_rfl) (by kernel_rfl) (fun _ _ _ h => h) K ?_
          simp only [Act.put, List.setIfInBounds_toArray, List.set_cons_zero, List.set_cons_succ]
          refine callH (i := 10) (some 34) rfl (by kernel_rfl) rfl rfl (fun _ => by kernel_rfl) (put32_any O (4 * i) 64 (64 - 4 * i) (64 - 4 * i) (by omega) g (hwd k c n i) (by omega) _ H) ?_
          rintro e w' ⟨rfl, rfl⟩
          replace K := K.poke O 64 List.mem_cons_self (4 * i) (row .u8 4 (b32 (hwd k c n i)))
          replace H := H.part (4 * i) 4 (by omega) (b32 (hwd k c n i))
          refine ⟨_, rfl, K, ?_⟩
          simp only [Act.put, List.setIfInBounds_toArray, List.set_cons_zero, List.set_cons_succ]
          refine wpAnyH_done (by kernel_rfl) ?_ _
          have HS := show Hid _ from (And.intro K (show HO k c n O (i + 1) _ _ from ⟨H, HD.out⟩))
          clear K H HD
          generalize (wr.drew.setCells O (4 * i) (row .u8 4 (b32 (hwd k c n i)))) = w6 at *
          go_wp2
          go_roundw
          case rel => first | exact ⟨i + 1, _, by omega, by go_num, HS.out⟩ | ((repeat apply Exists.intro); refine ⟨⟨i + 1, _, by omega, ?_, HS.out⟩, rfl⟩ <;> first | rfl | go_num)
          case measure => simp [intOf]; omega
        · obtain rfl : i = 16 := by omega
          have h1 := H.congr (g := hblk k c n) (fun j hj => hd j (by omega))
          have hz := (K.room _ (List.mem_cons_of_mem _ List.mem_cons_self)).1
          have hB := (K.fill _ _ (List.mem_cons_of_mem _ List.mem_cons_self) (row .u8 64 (hblk k c n))).below
          clear K H hd hlt hi g1
          generalize hf : hblk k c n = f at *
          go_wp2_with (first | (refine wpList_load_mid rfl 31 _ rfl (O) 0 rfl (row .u8 64 (f)) _ (Has.range (h1)) Tryd.underlying31 rfl (hb_info _) ?_) | (refine wpList_store_mid rfl 31 _ _ rfl (w.heap.size + 1 + 1) 0 (row .u8 64 f).toArray rfl rfl (room_of hz) (hb_info' _) (all_oneCell_toArray (row_one _ _ _)) ?_))
          exact bodyPost_ret (v := (.agg (row .u8 64 (f)).toArray)) (results_row Tryd.results12 rfl (Has.all hz .u8 _).range Tryd.underlying31 rfl (hb_info _)) rfl ⟨by first | rfl | rw [hf], hB⟩
end Go.Proofs.YtldebgblkaaojaaDoor
