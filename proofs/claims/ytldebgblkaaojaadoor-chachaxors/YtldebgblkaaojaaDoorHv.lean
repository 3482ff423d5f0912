/- The head of all statements of this layer: the document's examples hold. -/
import Derived.Test.YtldebgblkaaojaaDoorHg
import Derived.Test.YtldebgblkaaojaaDoorEr
namespace Go.Proofs.YtldebgblkaaojaaDoor
open Go.RowKit

/-- The example's key, its nonce, the first bytes of its block. -/
def hkk : Nat → Int := fun j => (j : Int)
def hnn : Nat → Int := bl [0, 0, 0, 9, 0, 0, 0, 74]
def hww : Nat → Int := bl [16, 241, 231, 228, 209, 59, 89, 21]
theorem hkk_in : In 256 32 hkk := fun j hj => by unfold hkk; omega
theorem hnn_in : In 256 12 hnn := bl_in _ _ (by decide)
def hev : Nat → Int := evN 10 1634760805 857760878 2036477234 1797285236 (w32 hkk 0) (w32 hkk 4) (w32 hkk 8) (w32 hkk 12) (w32 hkk 16) (w32 hkk 20) (w32 hkk 24) (w32 hkk 28) 1 (w32 hnn 0) (w32 hnn 4) (w32 hnn 8)
theorem hev_eq : drN (hst hkk 1 hnn) 10 = hev := (evN_eq 10 _ _ _ _ _ _ _ _ _ _ _ _ _ _ _ _).symm
theorem hev_vals : hev 0 + 1634760805 = 3840405776 ∧ hev 1 + 857760878 = 4653136849 := by decide +kernel
theorem hblk_shown (j : Nat) (hj : j < 8) : hblk hkk 1 hnn j = hww j := by
  have e0 : hwd hkk 1 hnn 0 = 3840405776 := by unfold hwd; rw [hev_eq]; show had (hev 0) 1634760805 = _; unfold had; rw [hev_vals.1]; decide
  have e1 : hwd hkk 1 hnn 1 = 358169553 := by unfold hwd; rw [hev_eq]; show had (hev 1) 857760878 = _; unfold had; rw [hev_vals.2]; decide
  unfold hblk
  match j, hj with
  | 0, _ | 1, _ | 2, _ | 3, _ => simp only [Nat.reduceDiv, Nat.reduceMod, e0]; decide
  | 4, _ | 5, _ | 6, _ | 7, _ => simp only [Nat.reduceDiv, Nat.reduceMod, e1]; decide
theorem hqt_shown (j : Nat) (hj : j < 4) : hqt (quad 286331153 16909060 2609737539 19088743) j = quad 3928658676 3407673550 1166100270 1484899515 j := by
  match j, hj with
  | 0, _ | 1, _ | 2, _ | 3, _ => decide +kernel

theorem h8_info (f : Nat → Int) : (Tryd.prog.info? 41).map (·.size) = some (row .u8 8 f).length := by rw [row_length]; kernel_rfl
theorem h8_info' (f : Nat → Int) : (Tryd.prog.info? 41).map (·.size) = some (row .u8 8 f).toArray.size := by rw [List.size_toArray]; exact h8_info f
theorem h8_zero (w : World) (t : TypeId) (b : Nat) (hb : b = w.heap.size) : Has (w.alloc (.cells #[.int .u8 0, .int .u8 0, .int .u8 0, .int .u8 0, .int .u8 0, .int .u8 0, .int .u8 0, .int .u8 0] t)) b .u8 8 (fun _ => 0) := Has.new w .u8 8 (fun _ => 0) t b hb
theorem idxK (b i : Nat) (hi : i < 32) (w : World) {o : Oper} {a : Act} (x y : Operand) (ho : o.op = .indexAddr 28 x y) (hx : a.eval x = .pointer (some ⟨b, 0, none⟩)) (hy : a.eval y = .int .i64 (i : Int)) :
    (execOp a.eval o).run Tryd.prog w = .ok (.value (.pointer (some ⟨b, i, none⟩))) w := by
  have h := idxArr (P := Tryd.prog) 28 5 32 .i64 b 0 i x y Tryd.underlying28 (fun _ => by kernel_rfl) hi ho hx hy w
  rw [Nat.zero_add] at h
  exact h
theorem idx8 (b i : Nat) (hi : i < 8) (w : World) {o : Oper} {a : Act} (x y : Operand) (ho : o.op = .indexAddr 41 x y) (hx : a.eval x = .pointer (some ⟨b, 0, none⟩)) (hy : a.eval y = .int .i64 (i : Int)) :
    (execOp a.eval o).run Tryd.prog w = .ok (.value (.pointer (some ⟨b, i, none⟩))) w := by
  have h := idxArr (P := Tryd.prog) 41 5 8 .i64 b 0 i x y Tryd.underlying41 (fun _ => by kernel_rfl) hi ho hx hy w
  rw [Nat.zero_add] at h
  exact h

set_option maxRecDepth 10000 in
set_option maxHeartbeats 4000000 in
theorem hshown_any (w : World) (hg : HGlob w) :
    Calls Tryd.prog 9 #[] w fun e w' => e = .returned (.bool true) ∧ Below w.heap.size w w' := by
  have K := Kr.init w
  go_enter Tryd.func9, Tryd.ntmps9
  go_upto_region 1 with fail
  refine wp_region_list ?_
  refine pureL (.agg (row .u8 32 (fun _ => 0)).toArray) rfl (fun _ => by kernel_rfl) ?_
  simp only [Act.put, List.setIfInBounds_toArray, List.set_cons_zero, List.set_cons_succ]
  refine allocL #[.int .u8 0, .int .u8 0, .int .u8 0, .int .u8 0, .int .u8 0, .int .u8 0, .int .u8 0, .int .u8 0, .int .u8 0, .int .u8 0, .int .u8 0, .int .u8 0, .int .u8 0, .int .u8 0, .int .u8 0, .int .u8 0, .int .u8 0, .int .u8 0, .int .u8 0, .int .u8 0, .int .u8 0, .int .u8 0, .int .u8 0, .int .u8 0, .int .u8 0, .int .u8 0, .int .u8 0, .int .u8 0, .int .u8 0, .int .u8 0, .int .u8 0, .int .u8 0] 28 rfl (fun _ => by kernel_rfl) ?_
  simp only [Act.put, List.setIfInBounds_toArray, List.set_cons_zero, List.set_cons_succ]
  refine storesL .u8 32 (fun _ => 0) w.heap.size 28 _ _ rfl rfl rfl rfl (room_of (key_zero _ _ _ rfl).there) (key_info' _) ?_
  simp only [Act.put]
  replace K := K.fresh .u8 32 (fun _ => 0) #[.int .u8 0, .int .u8 0, .int .u8 0, .int .u8 0, .int .u8 0, .int .u8 0, .int .u8 0, .int .u8 0, .int .u8 0, .int .u8 0, .int .u8 0, .int .u8 0, .int .u8 0, .int .u8 0, .int .u8 0, .int .u8 0, .int .u8 0, .int .u8 0, .int .u8 0, .int .u8 0, .int .u8 0, .int .u8 0, .int .u8 0, .int .u8 0, .int .u8 0, .int .u8 0, .int .u8 0, .int .u8 0, .int .u8 0, .int .u8 0, .int .u8 0, .int .u8 0] 28 (key_zero _ _ _ rfl).there
  generalize ((w.alloc (.cells #[.int .u8 0, .int .u8 0, .int .u8 0, .int .u8 0, .int .u8 0, .int .u8 0, .int .u8 0, .int .u8 0, .int .u8 0, .int .u8 0, .int .u8 0, .int .u8 0, .int .u8 0, .int .u8 0, .int .u8 0, .int .u8 0, .int .u8 0, .int .u8 0, .int .u8 0, .int .u8 0, .int .u8 0, .int .u8 0, .int .u8 0, .int .u8 0, .int .u8 0, .int .u8 0, .int .u8 0, .int .u8 0, .int .u8 0, .int .u8 0, .int .u8 0, .int .u8 0] 28)).setCells w.heap.size 0 (row .u8 32 (fun _ => 0))) = w1 at K ⊢
  show Exit.then _ _ _ _ _
  go_wp2
  go_loopw [2] (fun i w' => ∃ (m : Nat) (f : Nat → Int), m ≤ 32 ∧ i = .int .i64 m ∧ Kr w (w.heap.size + 1) [(w.heap.size, .u8, 32, f)] [] w' ∧ ∀ j, j < m → f j = (j : Int)) (fun i _ => 32 - (intOf i).toNat)
  case atStart => exact ⟨0, _, by omega, rfl, K, fun j hj => by omega⟩
  case round =>
    clear K
    obtain ⟨m, f, hm, rfl, K, hd⟩ := hrel
    have g1 : (0 : Int) ≤ (m : Int) := by omega
    by_cases hlt : m < 32
    · have g2 : (m : Int) < 32 := by omega
      go_upto_region 5 with fail
      refine wp_region_list ?_
      refine pureL (.int .i64 (m : Int)) rfl (fun _ => by kernel_rfl) ?_
      simp only [Act.put, List.setIfInBounds_toArray, List.set_cons_zero, List.set_cons_succ]
      refine pureL (.int .i64 (m : Int)) rfl (fun _ => by kernel_rfl) ?_
      simp only [Act.put, List.setIfInBounds_toArray, List.set_cons_zero, List.set_cons_succ]
      refine pureL (.int .u8 (m : Int)) rfl (fun w => convI .i64 .u8 _ _ _ _ _ rfl (by kernel_rfl) Tryd.underlying5 (by kernel_rfl) rfl (by rw [IntKind.wrap_u8']; omega) w) ?_
      simp only [Act.put, List.setIfInBounds_toArray, List.set_cons_zero, List.set_cons_succ]
      refine pureL (.pointer (some ⟨w.heap.size, m, none⟩)) rfl (fun w' => idxK w.heap.size m hlt w' _ _ rfl rfl rfl) ?_
      simp only [Act.put, List.setIfInBounds_toArray, List.set_cons_zero, List.set_cons_succ]
      refine storeL .u8 (m : Int) w.heap.size m 5 _ _ rfl rfl rfl rfl (by rw [(K.get _ _ _ _ List.mem_cons_self).cell _ hlt]; rfl) ((K.get _ _ _ _ List.mem_cons_self).free _ hlt) (by kernel_rfl) ?_
      simp only [Act.put]
      replace K := K.setCell [] w.heap.size .u8 32 f m hlt (m : Int) List.mem_cons_self (fun p hp => by cases hp) (fun p hp => by cases hp) (by omega)
      have HS := show Hid _ from (And.intro K (show ∀ j, j < m + 1 → upd f m (m : Int) j = (j : Int) from fun j hj => by
        by_cases ej : j = m
        · subst ej; rw [upd_same]
        · rw [upd_other _ _ _ _ ej]; exact hd j (by omega)))
      clear K hd
      generalize wr.setCell ⟨w.heap.size, m, none⟩ (.int .u8 (m : Int)) = w6 at HS ⊢
      show Exit.inBlock _ _ _ _ _
      go_wp2
      go_roundw
      case rel => first | exact ⟨m + 1, _, by omega, by go_num, HS.out⟩ | ((repeat apply Exists.intro); refine ⟨⟨m + 1, _, by omega, ?_, HS.out⟩, rfl⟩ <;> first | rfl | go_num)
      case measure => simp [intOf]; omega
    · obtain rfl : m = 32 := by omega
      have H := (K.get _ _ _ _ List.mem_cons_self).congr (g := hkk) (fun j hj => hd j hj)
      replace K : Kr w (w.heap.size + 1) [(w.heap.size, .u8, 32, hkk)] [] wr := ⟨fun p hp => by obtain rfl := List.mem_singleton.1 hp; exact ⟨H, (K.rows _ List.mem_cons_self).2⟩, K.room, (fun p hp q hq => by cases hq), K.size, K.base, K.below⟩
      clear H hd hlt hm g1
      go_upto_region 6 with fail
      refine wp_region_list ?_
      refine rowKL .u8 32 hkk w.heap.size 0 28 _ _ rfl rfl rfl Tryd.underlying28 rfl (key_info _) (K.get _ _ _ _ List.mem_cons_self).range ?_
      simp only [Act.put, List.setIfInBounds_toArray, List.set_cons_zero, List.set_cons_succ]
      refine pureL (.agg (row .u8 12 hnn).toArray) rfl (fun _ => by kernel_rfl) ?_
      simp only [Act.put, List.setIfInBounds_toArray, List.set_cons_zero, List.set_cons_succ]
      refine callL rfl (fun _ => by kernel_rfl) (hblock_any hkk 1 hnn hkk_in hnn_in _ (hg.below K.below hg.size)) ?_
      rintro e w2 ⟨rfl, l⟩
      replace K := K.call l
      clear l
      refine ⟨_, rfl, ?_⟩
      simp only [Act.put, List.setIfInBounds_toArray, List.set_cons_zero, List.set_cons_succ]
      refine allocL #[.int .u8 0, .int .u8 0, .int .u8 0, .int .u8 0, .int .u8 0, .int .u8 0, .int .u8 0, .int .u8 0, .int .u8 0, .int .u8 0, .int .u8 0, .int .u8 0, .int .u8 0, .int .u8 0, .int .u8 0, .int .u8 0, .int .u8 0, .int .u8 0, .int .u8 0, .int .u8 0, .int .u8 0, .int .u8 0, .int .u8 0, .int .u8 0, .int .u8 0, .int .u8 0, .int .u8 0, .int .u8 0, .int .u8 0, .int .u8 0, .int .u8 0, .int .u8 0, .int .u8 0, .int .u8 0, .int .u8 0, .int .u8 0, .int .u8 0, .int .u8 0, .int .u8 0, .int .u8 0, .int .u8 0, .int .u8 0, .int .u8 0, .int .u8 0, .int .u8 0, .int .u8 0, .int .u8 0, .int .u8 0, .int .u8 0, .int .u8 0, .int .u8 0, .int .u8 0, .int .u8 0, .int .u8 0, .int .u8 0, .int .u8 0, .int .u8 0, .int .u8 0, .int .u8 0, .int .u8 0, .int .u8 0, .int .u8 0, .int .u8 0, .int .u8 0] 31 rfl (fun _ => by kernel_rfl) ?_
      simp only [Act.put, List.setIfInBounds_toArray, List.set_cons_zero, List.set_cons_succ]
      refine storesL .u8 64 (hblk hkk 1 hnn) w2.heap.size 31 _ _ rfl rfl rfl rfl (room_of (hb_zero _ _ _ rfl).there) (hb_info' _) ?_
      simp only [Act.put]
      have zD := K.size
      replace K := K.fresh .u8 64 (hblk hkk 1 hnn) #[.int .u8 0, .int .u8 0, .int .u8 0, .int .u8 0, .int .u8 0, .int .u8 0, .int .u8 0, .int .u8 0, .int .u8 0, .int .u8 0, .int .u8 0, .int .u8 0, .int .u8 0, .int .u8 0, .int .u8 0, .int .u8 0, .int .u8 0, .int .u8 0, .int .u8 0, .int .u8 0, .int .u8 0, .int .u8 0, .int .u8 0, .int .u8 0, .int .u8 0, .int .u8 0, .int .u8 0, .int .u8 0, .int .u8 0, .int .u8 0, .int .u8 0, .int .u8 0, .int .u8 0, .int .u8 0, .int .u8 0, .int .u8 0, .int .u8 0, .int .u8 0, .int .u8 0, .int .u8 0, .int .u8 0, .int .u8 0, .int .u8 0, .int .u8 0, .int .u8 0, .int .u8 0, .int .u8 0, .int .u8 0, .int .u8 0, .int .u8 0, .int .u8 0, .int .u8 0, .int .u8 0, .int .u8 0, .int .u8 0, .int .u8 0, .int .u8 0, .int .u8 0, .int .u8 0, .int .u8 0, .int .u8 0, .int .u8 0, .int .u8 0, .int .u8 0] 31 (hb_zero _ _ _ rfl).there
      generalize ((w2.alloc (.cells #[.int .u8 0, .int .u8 0, .int .u8 0, .int .u8 0, .int .u8 0, .int .u8 0, .int .u8 0, .int .u8 0, .int .u8 0, .int .u8 0, .int .u8 0, .int .u8 0, .int .u8 0, .int .u8 0, .int .u8 0, .int .u8 0, .int .u8 0, .int .u8 0, .int .u8 0, .int .u8 0, .int .u8 0, .int .u8 0, .int .u8 0, .int .u8 0, .int .u8 0, .int .u8 0, .int .u8 0, .int .u8 0, .int .u8 0, .int .u8 0, .int .u8 0, .int .u8 0, .int .u8 0, .int .u8 0, .int .u8 0, .int .u8 0, .int .u8 0, .int .u8 0, .int .u8 0, .int .u8 0, .int .u8 0, .int .u8 0, .int .u8 0, .int .u8 0, .int .u8 0, .int .u8 0, .int .u8 0, .int .u8 0, .int .u8 0, .int .u8 0, .int .u8 0, .int .u8 0, .int .u8 0, .int .u8 0, .int .u8 0, .int .u8 0, .int .u8 0, .int .u8 0, .int .u8 0, .int .u8 0, .int .u8 0, .int .u8 0, .int .u8 0, .int .u8 0] 31)).setCells w2.heap.size 0 (row .u8 64 (hblk hkk 1 hnn))) = wD at K ⊢
      generalize w2.heap.size = D at *
      show Exit.then _ _ _ _ _
      go_upto_region 7 with fail
      refine wp_region_list ?_
      refine pureL (.agg (row .u32 4 (quad 286331153 16909060 2609737539 19088743)).toArray) rfl (fun _ => by kernel_rfl) ?_
      simp only [Act.put, List.setIfInBounds_toArray, List.set_cons_zero, List.set_cons_succ]
      refine callL rfl (fun _ => by kernel_rfl) (hquarter_any (quad 286331153 16909060 2609737539 19088743) _) ?_
      rintro e w3 ⟨rfl, l⟩
      replace K := K.call l
      clear l
      refine ⟨_, rfl, ?_⟩
      simp only [Act.put, List.setIfInBounds_toArray, List.set_cons_zero, List.set_cons_succ]
      refine allocL #[.int .u32 0, .int .u32 0, .int .u32 0, .int .u32 0] 23 rfl (fun _ => by kernel_rfl) ?_
      simp only [Act.put, List.setIfInBounds_toArray, List.set_cons_zero, List.set_cons_succ]
      refine storesL .u32 4 (hqt (quad 286331153 16909060 2609737539 19088743)) w3.heap.size 23 _ _ rfl rfl rfl rfl (room_of (hq_zero _ _ _ rfl).there) (hq_info' _) ?_
      simp only [Act.put]
      have zE := K.size
      replace K := K.fresh .u32 4 (hqt (quad 286331153 16909060 2609737539 19088743)) #[.int .u32 0, .int .u32 0, .int .u32 0, .int .u32 0] 23 (hq_zero _ _ _ rfl).there
      generalize ((w3.alloc (.cells #[.int .u32 0, .int .u32 0, .int .u32 0, .int .u32 0] 23)).setCells w3.heap.size 0 (row .u32 4 (hqt (quad 286331153 16909060 2609737539 19088743)))) = wE at K ⊢
      generalize w3.heap.size = E at *
      show Exit.then _ _ _ _ _
      go_upto_region 8 with fail
      refine wp_region_list ?_
      refine pureL (.agg (row .u8 8 hww).toArray) rfl (fun _ => by kernel_rfl) ?_
      simp only [Act.put, List.setIfInBounds_toArray, List.set_cons_zero, List.set_cons_succ]
      refine allocL #[.int .u8 0, .int .u8 0, .int .u8 0, .int .u8 0, .int .u8 0, .int .u8 0, .int .u8 0, .int .u8 0] 41 rfl (fun _ => by kernel_rfl) ?_
      simp only [Act.put, List.setIfInBounds_toArray, List.set_cons_zero, List.set_cons_succ]
      refine storesL .u8 8 (hww) wE.heap.size 41 _ _ rfl rfl rfl rfl (room_of (h8_zero _ _ _ rfl).there) (h8_info' _) ?_
      simp only [Act.put]
      have zF := K.size
      replace K := K.fresh .u8 8 (hww) #[.int .u8 0, .int .u8 0, .int .u8 0, .int .u8 0, .int .u8 0, .int .u8 0, .int .u8 0, .int .u8 0] 41 (h8_zero _ _ _ rfl).there
      generalize ((wE.alloc (.cells #[.int .u8 0, .int .u8 0, .int .u8 0, .int .u8 0, .int .u8 0, .int .u8 0, .int .u8 0, .int .u8 0] 41)).setCells wE.heap.size 0 (row .u8 8 (hww))) = wF at K ⊢
      generalize wE.heap.size = F at *
      show Exit.then _ _ _ _ _
      go_wp2
      go_loopw [6] (fun i w' => ∃ m : Nat, m ≤ 8 ∧ i = .int .i64 m ∧ Kr w (F + 1) [(F, .u8, 8, hww), (E, .u32, 4, hqt (quad 286331153 16909060 2609737539 19088743)), (D, .u8, 64, hblk hkk 1 hnn), (w.heap.size, .u8, 32, hkk)] [] w') (fun i _ => 8 - (intOf i).toNat)
      case atStart => exact ⟨0, by omega, rfl, K⟩
      case round =>
        clear K
        obtain ⟨m, hm, rfl, K⟩ := hrel
        have g1 : (0 : Int) ≤ (m : Int) := by omega
        by_cases hlt : m < 8
        · have g2 : (m : Int) < 8 := by omega
          have hm64 : m < 64 := by omega
          go_upto_region 12 with fail
          refine wp_region_held_drew (S := fun w' => Kr w (F + 1) [(F, .u8, 8, hww), (E, .u32, 4, hqt (quad 286331153 16909060 2609737539 19088743)), (D, .u8, 64, hblk hkk 1 hnn), (w.heap.size, .u8, 32, hkk)] [] w') (by kernel_rfl) K.drew ?_
          clear K
          intro K
          refine pureH (i := 0) (some 26) rfl (.int .i64 (m : Int)) rfl rfl (fun _ => by kernel_rfl) (by kernel_rfl) (by kernel_rfl) (by kernel_rfl) (fun _ _ _ h => h) K ?_
          simp only [Act.put, List.setIfInBounds_toArray, List.set_cons_zero, List.set_cons_succ]
          refine pureH (i := 1) (some 27) rfl (.pointer (some ⟨D, m, none⟩)) rfl rfl (fun w' => idx64 D m hm64 w' _ _ rfl rfl rfl) (by kernel_rfl) (by kernel_rfl) (by kernel_rfl) (fun _ _ _ h => h) K ?_
          simp only [Act.put, List.setIfInBounds_toArray, List.set_cons_zero, List.set_cons_succ]
          refine cellH (i := 2) (some 28) rfl .u8 (.int .u8 (hww m)) D m 5 _ rfl rfl rfl rfl (by kernel_rfl) (by kernel_rfl) (by kernel_rfl) (fun _ _ _ h => h) Tryd.underlying5 K (fun _ h => by rw [← hblk_shown m hlt]; exact (h.get _ _ _ _ (List.mem_cons_of_mem _ (List.mem_cons_of_mem _ List.mem_cons_self))).cell m hm64) ?_
          simp only [Act.put, List.setIfInBounds_toArray, List.set_cons_zero, List.set_cons_succ]
          refine pureH (i := 3) (some 29) rfl (.int .i64 (m : Int)) rfl rfl (fun _ => by kernel_rfl) (by kernel_rfl) (by kernel_rfl) (by kernel_rfl) (fun _ _ _ h => h) K ?_
          simp only [Act.put, List.setIfInBounds_toArray, List.set_cons_zero, List.set_cons_succ]
          refine pureH (i := 4) (some 30) rfl (.pointer (some ⟨F, m, none⟩)) rfl rfl (fun w' => idx8 F m hlt w' _ _ rfl rfl rfl) (by kernel_rfl) (by kernel_rfl) (by kernel_rfl) (fun _ _ _ h => h) K ?_
          simp only [Act.put, List.setIfInBounds_toArray, List.set_cons_zero, List.set_cons_succ]
          refine cellH (i := 5) (some 31) rfl .u8 (.int .u8 (hww m)) F m 5 _ rfl rfl rfl rfl (by kernel_rfl) (by kernel_rfl) (by kernel_rfl) (fun _ _ _ h => h) Tryd.underlying5 K (fun _ h => (h.get _ _ _ _ List.mem_cons_self).cell m hlt) ?_
          simp only [Act.put, List.setIfInBounds_toArray, List.set_cons_zero, List.set_cons_succ]
          refine pureH (i := 6) (some 32) rfl (.bool false) rfl rfl (fun w => neqI .u8 _ _ _ _ _ _ rfl rfl rfl false (by simp) w) (by kernel_rfl) (by kernel_rfl) (by kernel_rfl) (fun _ _ _ h => h) K ?_
          simp only [Act.put, List.setIfInBounds_toArray, List.set_cons_zero, List.set_cons_succ]
          refine wpAnyH_done (by kernel_rfl) ?_ _
          have HS := show Hid _ from K
          clear K
          generalize wr.drew = w5 at HS ⊢
          go_wp2
          go_roundw
          case rel => first | exact ⟨m + 1, by omega, by go_num, HS.out⟩ | ((repeat apply Exists.intro); refine ⟨⟨m + 1, by omega, ?_, HS.out⟩, rfl⟩ <;> first | rfl | go_num)
          case measure => simp [intOf]; omega
        · obtain rfl : m = 8 := by omega
          clear hlt hm g1
          go_upto_region 14 with fail
          refine wp_region_list ?_
          refine rowKL .u32 4 (hqt (quad 286331153 16909060 2609737539 19088743)) E 0 23 _ _ rfl rfl rfl Tryd.underlying23 rfl (hq_info _) (K.get _ _ _ _ (List.mem_cons_of_mem _ List.mem_cons_self)).range ?_
          simp only [Act.put, List.setIfInBounds_toArray, List.set_cons_zero, List.set_cons_succ]
          refine pureL (.agg (row .u32 4 (quad 3928658676 3407673550 1166100270 1484899515)).toArray) rfl (fun _ => by kernel_rfl) ?_
          simp only [Act.put, List.setIfInBounds_toArray, List.set_cons_zero, List.set_cons_succ]
          refine pureL (.bool true) rfl (fun w => eqlRow 4 .u32 _ _ 23 22 _ _ _ rfl rfl rfl Tryd.underlying23 Tryd.underlying22 (fun _ => by kernel_rfl) (by kernel_rfl) hqt_shown w) ?_
          simp only [Act.put, List.setIfInBounds_toArray, List.set_cons_zero, List.set_cons_succ]
          refine pureL (.bool true) rfl (fun _ => by kernel_rfl) ?_
          simp only [Act.put, List.setIfInBounds_toArray, List.set_cons_zero, List.set_cons_succ]
          refine rowKL .u8 32 hkk w.heap.size 0 28 _ _ rfl rfl rfl Tryd.underlying28 rfl (key_info _) (K.get _ _ _ _ (List.mem_cons_of_mem _ (List.mem_cons_of_mem _ (List.mem_cons_of_mem _ List.mem_cons_self)))).range ?_
          simp only [Act.put, List.setIfInBounds_toArray, List.set_cons_zero, List.set_cons_succ]
          refine pureL (.agg (row .u8 12 (fun _ => 0)).toArray) rfl (fun _ => by kernel_rfl) ?_
          simp only [Act.put, List.setIfInBounds_toArray, List.set_cons_zero, List.set_cons_succ]
          refine callL rfl (fun _ => by kernel_rfl) (hxor_any hkk 1 (fun _ => 0) hkk_in (fun _ _ => ⟨Int.le_refl 0, (by decide : (0 : Int) < 256)⟩) (by decide) none 0 0 (by decide) (fun _ => 0) _ (hg.below K.below hg.size) (fun j hj => by omega)) ?_
          rintro e w6 ⟨U, rfl, _, l⟩
          replace K := K.call l
          clear l
          refine ⟨_, rfl, ?_⟩
          simp only [Act.put, List.setIfInBounds_toArray, List.set_cons_zero, List.set_cons_succ]
          refine pureL (.int .i64 ((0 : Nat) : Int)) rfl (fun w => lenS _ 36 5 _ 0 0 rfl Tryd.underlying36 rfl w) ?_
          simp only [Act.put, List.setIfInBounds_toArray, List.set_cons_zero, List.set_cons_succ]
          refine pureL (.bool true) rfl (fun _ => by kernel_rfl) ?_
          simp only [Act.put, List.setIfInBounds_toArray, List.set_cons_zero, List.set_cons_succ]
          refine pureL (.bool true) rfl (fun _ => by kernel_rfl) ?_
          simp only [Act.put, List.setIfInBounds_toArray, List.set_cons_zero, List.set_cons_succ]
          refine pureL (.bool true) rfl (fun _ => by kernel_rfl) ?_
          simp only [Act.put, List.setIfInBounds_toArray, List.set_cons_zero]
          have hB := K.below
          clear K
          show Exit.then _ _ _ _ _
          go_wp2
          go_ret
          exact ⟨rfl, hB⟩
end Go.Proofs.YtldebgblkaaojaaDoor
