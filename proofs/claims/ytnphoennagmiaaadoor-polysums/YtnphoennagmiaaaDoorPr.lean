/- What the document's own Sum answers. -/
import Derived.Test.YtnphoennagmiaaaDoorPa
import Derived.Test.YtnphoennagmiaaaDoorRt
import Derived.Test.YtnphoennagmiaaaDoorRb
import Derived.Test.YtnphoennagmiaaaDoorRa
import Derived.Test.YtnphoennagmiaaaDoorRm
import Derived.Test.YtnphoennagmiaaaDoorRl
import Derived.Test.YtnphoennagmiaaaDoorSc
import Derived.Test.YtnphoennagmiaaaDoorKy
namespace Go.Proofs.YtnphoennagmiaaaDoor
open Go.RowKit

theorem idxTag (b i : Nat) (hi : i < 16) (w : World) {o : Oper} {a : Act} (x y : Operand) (ho : o.op = .indexAddr 27 x y) (hx : a.eval x = .pointer (some ⟨b, 0, none⟩)) (hy : a.eval y = .int .i64 (i : Int)) :
    (execOp a.eval o).run Tryd.prog w = .ok (.value (.pointer (some ⟨b, i, none⟩))) w := by
  have h := idxArr (P := Tryd.prog) 27 5 16 .i64 b 0 i x y Tryd.underlying27 (fun _ => by kernel_rfl) hi ho hx hy w
  rw [Nat.zero_add] at h
  exact h
theorem idxBig (b i : Nat) (hi : i < 17) (w : World) {o : Oper} {a : Act} (x y : Operand) (ho : o.op = .indexAddr 33 x y) (hx : a.eval x = .pointer (some ⟨b, 0, none⟩)) (hy : a.eval y = .int .i64 (i : Int)) :
    (execOp a.eval o).run Tryd.prog w = .ok (.value (.pointer (some ⟨b, i, none⟩))) w := by
  have h := idxArr (P := Tryd.prog) 33 5 17 .i64 b 0 i x y Tryd.underlying33 (fun _ => by kernel_rfl) hi ho hx hy w
  rw [Nat.zero_add] at h
  exact h
theorem idxKy (b i : Nat) (hi : i < 32) (w : World) {o : Oper} {a : Act} (x y : Operand) (ho : o.op = .indexAddr 23 x y) (hx : a.eval x = .pointer (some ⟨b, 0, none⟩)) (hy : a.eval y = .int .i64 (i : Int)) :
    (execOp a.eval o).run Tryd.prog w = .ok (.value (.pointer (some ⟨b, i, none⟩))) w := by
  have h := idxArr (P := Tryd.prog) 23 5 32 .i64 b 0 i x y Tryd.underlying23 (fun _ => by kernel_rfl) hi ho hx hy w
  rw [Nat.zero_add] at h
  exact h

set_option maxRecDepth 10000 in
set_option maxHeartbeats 8000000 in
theorem refSum_any (k : Nat → Int) (hk : In 256 32 k) (sp : Option Addr) (len cap : Nat) (hlen : len ≤ 140737488355328) (hcap : len ≤ cap) (z : Nat → Int) (hz : In 256 len z) (w : World) (hs : Src w sp len z) :
    Calls Tryd.prog 10 #[(.agg (row .u8 32 (k)).toArray), .slice sp len cap] w fun e w' => ∃ f : Nat → Int, e = .returned (.agg (row .u8 16 (f)).toArray) ∧ (In 256 16 f ∧ val 256 f 16 = ptag k len z) ∧ Below w.heap.size w w' := by
  have hk1 : In 256 16 k := fun j hj => hk j (by omega)
  have hk2 : In 256 16 (fun j => k (16 + j)) := fun j hj => hk (16 + j) (by omega)
  have K := Kr.init w
  replace K := K.box .u8 32 k 23 w.heap.size rfl
  replace K := K.make 16 #[.int .u8 0, .int .u8 0, .int .u8 0, .int .u8 0, .int .u8 0, .int .u8 0, .int .u8 0, .int .u8 0, .int .u8 0, .int .u8 0, .int .u8 0, .int .u8 0, .int .u8 0, .int .u8 0, .int .u8 0, .int .u8 0] 27 (w.heap.size + 1) (by simp) (tag_zero _ _ _ (by simp)).there
  go_enter Tryd.func10, Tryd.ntmps10
  go_upto_region 1 with fail
  generalize ((w.alloc (.cells (row .u8 32 k).toArray 23)).alloc (.cells #[.int .u8 0, .int .u8 0, .int .u8 0, .int .u8 0, .int .u8 0, .int .u8 0, .int .u8 0, .int .u8 0, .int .u8 0, .int .u8 0, .int .u8 0, .int .u8 0, .int .u8 0, .int .u8 0, .int .u8 0, .int .u8 0] 27)) = w0 at K ⊢
  refine wp_region_list ?_
  refine pureL (.agg (row .u8 16 (fun _ => 0)).toArray) rfl (fun _ => by kernel_rfl) ?_
  simp only [Act.put, List.setIfInBounds_toArray, List.set_cons_zero, List.set_cons_succ]
  refine allocL #[.int .u8 0, .int .u8 0, .int .u8 0, .int .u8 0, .int .u8 0, .int .u8 0, .int .u8 0, .int .u8 0, .int .u8 0, .int .u8 0, .int .u8 0, .int .u8 0, .int .u8 0, .int .u8 0, .int .u8 0, .int .u8 0] 27 rfl (fun _ => by kernel_rfl) ?_
  simp only [Act.put, List.setIfInBounds_toArray, List.set_cons_zero, List.set_cons_succ]
  refine storesL .u8 16 (fun _ => 0) w0.heap.size 27 _ _ rfl rfl rfl rfl (room_of (tag_zero _ _ _ rfl).there) (tag_info' _) ?_
  simp only [Act.put]
  have zR := K.size
  replace K := K.fresh .u8 16 (fun _ => 0) #[.int .u8 0, .int .u8 0, .int .u8 0, .int .u8 0, .int .u8 0, .int .u8 0, .int .u8 0, .int .u8 0, .int .u8 0, .int .u8 0, .int .u8 0, .int .u8 0, .int .u8 0, .int .u8 0, .int .u8 0, .int .u8 0] 27 (tag_zero _ _ _ rfl).there
  generalize ((w0.alloc (.cells #[.int .u8 0, .int .u8 0, .int .u8 0, .int .u8 0, .int .u8 0, .int .u8 0, .int .u8 0, .int .u8 0, .int .u8 0, .int .u8 0, .int .u8 0, .int .u8 0, .int .u8 0, .int .u8 0, .int .u8 0, .int .u8 0] 27)).setCells w0.heap.size 0 (row .u8 16 (fun _ => 0))) = w1 at K ⊢
  generalize w0.heap.size = R at *
  show Exit.then _ _ _ _ _
  go_upto_region 2 with fail
  refine wp_region_list ?_
  refine pureL (.agg (row .u8 16 (fun _ => 0)).toArray) rfl (fun _ => by kernel_rfl) ?_
  simp only [Act.put, List.setIfInBounds_toArray, List.set_cons_zero, List.set_cons_succ]
  refine allocL #[.int .u8 0, .int .u8 0, .int .u8 0, .int .u8 0, .int .u8 0, .int .u8 0, .int .u8 0, .int .u8 0, .int .u8 0, .int .u8 0, .int .u8 0, .int .u8 0, .int .u8 0, .int .u8 0, .int .u8 0, .int .u8 0] 27 rfl (fun _ => by kernel_rfl) ?_
  simp only [Act.put, List.setIfInBounds_toArray, List.set_cons_zero, List.set_cons_succ]
  refine storesL .u8 16 (fun _ => 0) w1.heap.size 27 _ _ rfl rfl rfl rfl (room_of (tag_zero _ _ _ rfl).there) (tag_info' _) ?_
  simp only [Act.put]
  have zS := K.size
  replace K := K.fresh .u8 16 (fun _ => 0) #[.int .u8 0, .int .u8 0, .int .u8 0, .int .u8 0, .int .u8 0, .int .u8 0, .int .u8 0, .int .u8 0, .int .u8 0, .int .u8 0, .int .u8 0, .int .u8 0, .int .u8 0, .int .u8 0, .int .u8 0, .int .u8 0] 27 (tag_zero _ _ _ rfl).there
  generalize ((w1.alloc (.cells #[.int .u8 0, .int .u8 0, .int .u8 0, .int .u8 0, .int .u8 0, .int .u8 0, .int .u8 0, .int .u8 0, .int .u8 0, .int .u8 0, .int .u8 0, .int .u8 0, .int .u8 0, .int .u8 0, .int .u8 0, .int .u8 0] 27)).setCells w1.heap.size 0 (row .u8 16 (fun _ => 0))) = w2 at K ⊢
  generalize w1.heap.size = S at *
  show Exit.then _ _ _ _ _
  go_wp2
  go_loopw [7] (fun i w' => ∃ (m : Nat) (f g : Nat → Int), m ≤ 16 ∧ i = .int .i64 m ∧ Kr w (S + 1) [(S, .u8, 16, g), (R, .u8, 16, f), (w.heap.size, .u8, 32, k)] [(w.heap.size + 1, 16)] w' ∧ (∀ j, j < m → f j = k j) ∧ ∀ j, j < m → g j = k (16 + j)) (fun i _ => 16 - (intOf i).toNat)
  case atStart => exact ⟨0, _, _, by omega, rfl, K, fun j hj => by omega, fun j hj => by omega⟩
  case round =>
    clear K
    obtain ⟨m, f, g, hm, rfl, K, hf, hg⟩ := hrel
    have g1 : (0 : Int) ≤ (m : Int) := by omega
    by_cases hlt : m < 16
    · have g2 : (m : Int) < 16 := by omega
      have hlt2 : 16 + m < 32 := by omega
      go_upto_region 6 with fail
      refine wp_region_list ?_
      refine pureL (.int .i64 (m : Int)) rfl (fun _ => by kernel_rfl) ?_
      simp only [Act.put, List.setIfInBounds_toArray, List.set_cons_zero, List.set_cons_succ]
      refine pureL (.int .i64 (m : Int)) rfl (fun _ => by kernel_rfl) ?_
      simp only [Act.put, List.setIfInBounds_toArray, List.set_cons_zero, List.set_cons_succ]
      refine pureL (.pointer (some ⟨w.heap.size, m, none⟩)) rfl (fun w' => idxKy w.heap.size m (by omega) w' _ _ rfl rfl rfl) ?_
      simp only [Act.put, List.setIfInBounds_toArray, List.set_cons_zero, List.set_cons_succ]
      refine cellL .u8 (.int .u8 (k m)) w.heap.size m 5 _ rfl rfl rfl Tryd.underlying5 ((K.get _ _ _ _ (List.mem_cons_of_mem _ (List.mem_cons_of_mem _ List.mem_cons_self))).cell m (by omega)) ?_
      simp only [Act.put, List.setIfInBounds_toArray, List.set_cons_zero, List.set_cons_succ]
      refine pureL (.pointer (some ⟨R, m, none⟩)) rfl (fun w' => idxTag R m hlt w' _ _ rfl rfl rfl) ?_
      simp only [Act.put, List.setIfInBounds_toArray, List.set_cons_zero, List.set_cons_succ]
      refine storeL .u8 (k m) R m 5 _ _ rfl rfl rfl rfl (by rw [(K.get _ _ _ _ (List.mem_cons_of_mem _ List.mem_cons_self)).cell _ hlt]; rfl) ((K.get _ _ _ _ (List.mem_cons_of_mem _ List.mem_cons_self)).free _ hlt) (by kernel_rfl) ?_
      simp only [Act.put]
      replace K := K.setCell [(S, .u8, 16, g), (w.heap.size, .u8, 32, k)] R .u8 16 f m hlt (k m) (List.mem_cons_of_mem _ List.mem_cons_self) (fun p hp => by rcases List.mem_cons.1 hp with rfl | hp; exact List.mem_cons_self; obtain rfl := List.mem_singleton.1 hp; exact (List.mem_cons_of_mem _ (List.mem_cons_of_mem _ List.mem_cons_self))) (fun p hp => by rcases List.mem_cons.1 hp with rfl | hp; simp only; omega; obtain rfl := List.mem_singleton.1 hp; simp only; omega) (by omega)
      generalize wr.setCell ⟨R, m, none⟩ (.int .u8 (k m)) = w4 at K ⊢
      show Exit.then _ _ _ _ _
      go_upto_region 7 with fail
      refine wp_region_list ?_
      refine pureL (.int .i64 (m : Int)) rfl (fun _ => by kernel_rfl) ?_
      simp only [Act.put, List.setIfInBounds_toArray, List.set_cons_zero, List.set_cons_succ]
      refine pureL (.int .i64 (m : Int)) rfl (fun _ => by kernel_rfl) ?_
      simp only [Act.put, List.setIfInBounds_toArray, List.set_cons_zero, List.set_cons_succ]
      refine pureL (.int .i64 ((16 + m : Nat) : Int)) rfl (fun w => addI .i64 16 (m : Int) _ _ _ _ _ rfl rfl rfl (by rw [IntKind.wrap_i64]; omega) w) ?_
      simp only [Act.put, List.setIfInBounds_toArray, List.set_cons_zero, List.set_cons_succ]
      refine pureL (.pointer (some ⟨w.heap.size, 16 + m, none⟩)) rfl (fun w' => idxKy w.heap.size (16 + m) hlt2 w' _ _ rfl rfl rfl) ?_
      simp only [Act.put, List.setIfInBounds_toArray, List.set_cons_zero, List.set_cons_succ]
      refine cellL .u8 (.int .u8 (k (16 + m))) w.heap.size (16 + m) 5 _ rfl rfl rfl Tryd.underlying5 ((K.get _ _ _ _ (List.mem_cons_of_mem _ (List.mem_cons_of_mem _ List.mem_cons_self))).cell (16 + m) hlt2) ?_
      simp only [Act.put, List.setIfInBounds_toArray, List.set_cons_zero, List.set_cons_succ]
      refine pureL (.pointer (some ⟨S, m, none⟩)) rfl (fun w' => idxTag S m hlt w' _ _ rfl rfl rfl) ?_
      simp only [Act.put, List.setIfInBounds_toArray, List.set_cons_zero, List.set_cons_succ]
      refine storeL .u8 (k (16 + m)) S m 5 _ _ rfl rfl rfl rfl (by rw [(K.get _ _ _ _ (List.mem_cons_of_mem _ List.mem_cons_self)).cell _ hlt]; rfl) ((K.get _ _ _ _ (List.mem_cons_of_mem _ List.mem_cons_self)).free _ hlt) (by kernel_rfl) ?_
      simp only [Act.put]
      replace K := K.setCell [(R, .u8, 16, upd f m (k m)), (w.heap.size, .u8, 32, k)] S .u8 16 g m hlt (k (16 + m)) (List.mem_cons_of_mem _ List.mem_cons_self) (fun p hp => by rcases List.mem_cons.1 hp with rfl | hp; exact List.mem_cons_self; obtain rfl := List.mem_singleton.1 hp; exact (List.mem_cons_of_mem _ (List.mem_cons_of_mem _ List.mem_cons_self))) (fun p hp => by rcases List.mem_cons.1 hp with rfl | hp; simp only; omega; obtain rfl := List.mem_singleton.1 hp; simp only; omega) (by omega)
      generalize w4.setCell ⟨S, m, none⟩ (.int .u8 (k (16 + m))) = w5 at K ⊢
      have HS := show Hid _ from (And.intro K (And.intro (show ∀ j, j < m + 1 → upd f m (k m) j = k j from fun j hj => by
        by_cases e : j = m
        · subst e; rw [upd_same]
        · rw [upd_other _ _ _ _ e]; exact hf j (by omega)) (show ∀ j, j < m + 1 → upd g m (k (16 + m)) j = k (16 + j) from fun j hj => by
        by_cases e : j = m
        · subst e; rw [upd_same]
        · rw [upd_other _ _ _ _ e]; exact hg j (by omega))))
      clear K hf hg
      show Exit.inBlock _ _ _ _ _
      go_wp2
      go_roundw
      case rel => first | exact ⟨m + 1, _, _, by omega, by go_num, HS.out⟩ | ((repeat apply Exists.intro); refine ⟨⟨m + 1, _, _, by omega, by go_num, HS.out⟩, rfl⟩)
      case measure => simp [intOf]; omega
    · obtain rfl : m = 16 := by omega
      clear hlt hm g1
      go_upto_region 8 with fail
      refine wp_region_list ?_
      refine rowKL .u8 16 (f) (R) 0 27 _ _ rfl rfl rfl Tryd.underlying27 rfl (tag_info _) ((K.get _ _ _ _ (List.mem_cons_of_mem _ List.mem_cons_self)).range) ?_
      simp only [Act.put, List.setIfInBounds_toArray, List.set_cons_zero, List.set_cons_succ]
      refine callL rfl (fun _ => by kernel_rfl) (refTrim_any f (fun j hj => by rw [hf j hj]; exact hk1 j hj) _) ?_
      rintro e w4 ⟨rfl, l⟩
      replace K := K.call l
      clear l
      refine ⟨_, rfl, ?_⟩
      simp only [Act.put, List.setIfInBounds_toArray, List.set_cons_zero, List.set_cons_succ]
      refine storesL .u8 16 (trimT f) R 27 _ _ rfl rfl rfl rfl (tag_there (K.get _ _ _ _ (List.mem_cons_of_mem _ List.mem_cons_self))) (tag_info' _) ?_
      simp only [Act.put]
      replace K := K.set [(S, .u8, 16, g), (w.heap.size, .u8, 32, k)] R .u8 16 f (trimT f) (List.mem_cons_of_mem _ List.mem_cons_self) (fun p hp => by rcases List.mem_cons.1 hp with rfl | hp; exact List.mem_cons_self; obtain rfl := List.mem_singleton.1 hp; exact (List.mem_cons_of_mem _ (List.mem_cons_of_mem _ List.mem_cons_self))) (fun p hp => by rcases List.mem_cons.1 hp with rfl | hp; simp only; omega; obtain rfl := List.mem_singleton.1 hp; simp only; omega) (by omega)
      generalize w4.setCells R 0 (row .u8 16 (trimT f)) = w5 at K ⊢
      have hS := (K.get _ _ _ _ (List.mem_cons_of_mem _ List.mem_cons_self)).congr (g := fun j => k (16 + j)) (fun j hj => hg j hj)
      have hR := (K.get _ _ _ _ List.mem_cons_self).congr (g := trimT k) (fun j hj => by unfold trimT; rw [hf j hj])
      replace K : Kr w (S + 1) [(R, .u8, 16, trimT k), (S, .u8, 16, fun j => k (16 + j))] [(w.heap.size + 1, 16)] w5 := ⟨fun p hp => by
        rcases List.mem_cons.1 hp with rfl | hp
        · exact ⟨hR, (K.rows _ List.mem_cons_self).2⟩
        · obtain rfl := List.mem_singleton.1 hp; exact ⟨hS, (K.rows _ (List.mem_cons_of_mem _ List.mem_cons_self)).2⟩, K.room, (fun p hp q hq => by
        rcases List.mem_cons.1 hp with rfl | hp
        · exact K.apart _ List.mem_cons_self q hq
        · obtain rfl := List.mem_singleton.1 hp; exact K.apart _ (List.mem_cons_of_mem _ List.mem_cons_self) q hq), K.size, K.base, K.below⟩
      clear hS hR hf hg
      show Exit.then _ _ _ _ _
      go_upto_region 9 with fail
      refine wp_region_list ?_
      refine pureL (.agg (row .u8 17 (fun _ => 0)).toArray) rfl (fun _ => by kernel_rfl) ?_
      simp only [Act.put, List.setIfInBounds_toArray, List.set_cons_zero, List.set_cons_succ]
      refine allocL #[.int .u8 0, .int .u8 0, .int .u8 0, .int .u8 0, .int .u8 0, .int .u8 0, .int .u8 0, .int .u8 0, .int .u8 0, .int .u8 0, .int .u8 0, .int .u8 0, .int .u8 0, .int .u8 0, .int .u8 0, .int .u8 0, .int .u8 0] 33 rfl (fun _ => by kernel_rfl) ?_
      simp only [Act.put, List.setIfInBounds_toArray, List.set_cons_zero, List.set_cons_succ]
      refine storesL .u8 17 (fun _ => 0) w5.heap.size 33 _ _ rfl rfl rfl rfl (room_of (big_zero _ _ _ rfl).there) (big_info' _) ?_
      simp only [Act.put]
      have zY := K.size
      replace K := K.fresh .u8 17 (fun _ => 0) #[.int .u8 0, .int .u8 0, .int .u8 0, .int .u8 0, .int .u8 0, .int .u8 0, .int .u8 0, .int .u8 0, .int .u8 0, .int .u8 0, .int .u8 0, .int .u8 0, .int .u8 0, .int .u8 0, .int .u8 0, .int .u8 0, .int .u8 0] 33 (big_zero _ _ _ rfl).there
      generalize ((w5.alloc (.cells #[.int .u8 0, .int .u8 0, .int .u8 0, .int .u8 0, .int .u8 0, .int .u8 0, .int .u8 0, .int .u8 0, .int .u8 0, .int .u8 0, .int .u8 0, .int .u8 0, .int .u8 0, .int .u8 0, .int .u8 0, .int .u8 0, .int .u8 0] 33)).setCells w5.heap.size 0 (row .u8 17 (fun _ => 0))) = w6 at K ⊢
      generalize w5.heap.size = Y at *
      show Exit.then _ _ _ _ _
      go_wp2
      go_loopw [9] (fun i w' => ∃ (m : Nat) (y : Nat → Int), m ≤ 16 ∧ i = .int .i64 m ∧ Kr w (Y + 1) [(Y, .u8, 17, y), (R, .u8, 16, trimT k), (S, .u8, 16, fun j => k (16 + j))] [(w.heap.size + 1, 16)] w' ∧ (∀ j, j < m → y j = trimT k j) ∧ ∀ j, m ≤ j → y j = 0) (fun i _ => 16 - (intOf i).toNat)
      case atStart => exact ⟨0, _, by omega, rfl, K, fun j hj => by omega, fun _ _ => rfl⟩
      case round =>
        clear K
        obtain ⟨m, y, hm, rfl, K, hy, hy0⟩ := hrel
        have g1 : (0 : Int) ≤ (m : Int) := by omega
        by_cases hlt : m < 16
        · have g2 : (m : Int) < 16 := by omega
          have hlt2 : m < 17 := by omega
          go_upto_region 13 with fail
          refine wp_region_list ?_
          refine pureL (.int .i64 (m : Int)) rfl (fun _ => by kernel_rfl) ?_
          simp only [Act.put, List.setIfInBounds_toArray, List.set_cons_zero, List.set_cons_succ]
          refine pureL (.int .i64 (m : Int)) rfl (fun _ => by kernel_rfl) ?_
          simp only [Act.put, List.setIfInBounds_toArray, List.set_cons_zero, List.set_cons_succ]
          refine pureL (.pointer (some ⟨R, m, none⟩)) rfl (fun w' => idxTag R m hlt w' _ _ rfl rfl rfl) ?_
          simp only [Act.put, List.setIfInBounds_toArray, List.set_cons_zero, List.set_cons_succ]
          refine cellL .u8 (.int .u8 (trimT k m)) R m 5 _ rfl rfl rfl Tryd.underlying5 ((K.get _ _ _ _ (List.mem_cons_of_mem _ List.mem_cons_self)).cell m hlt) ?_
          simp only [Act.put, List.setIfInBounds_toArray, List.set_cons_zero, List.set_cons_succ]
          refine pureL (.pointer (some ⟨Y, m, none⟩)) rfl (fun w' => idxBig Y m hlt2 w' _ _ rfl rfl rfl) ?_
          simp only [Act.put, List.setIfInBounds_toArray, List.set_cons_zero, List.set_cons_succ]
          refine storeL .u8 (trimT k m) Y m 5 _ _ rfl rfl rfl rfl (by rw [(K.get _ _ _ _ List.mem_cons_self).cell _ hlt2]; rfl) ((K.get _ _ _ _ List.mem_cons_self).free _ hlt2) (by kernel_rfl) ?_
          simp only [Act.put]
          replace K := K.setCell [(R, .u8, 16, trimT k), (S, .u8, 16, fun j => k (16 + j))] Y .u8 17 y m hlt2 (trimT k m) List.mem_cons_self (fun p hp => List.mem_cons_of_mem _ hp) (fun p hp => by rcases List.mem_cons.1 hp with rfl | hp; simp only; omega; obtain rfl := List.mem_singleton.1 hp; simp only; omega) (by omega)
          generalize wr.setCell ⟨Y, m, none⟩ (.int .u8 (trimT k m)) = w8 at K ⊢
          have HS := show Hid _ from (And.intro K (And.intro (show ∀ j, j < m + 1 → upd y m (trimT k m) j = trimT k j from fun j hj => by
            by_cases e : j = m
            · subst e; rw [upd_same]
            · rw [upd_other _ _ _ _ e]; exact hy j (by omega)) (show ∀ j, m + 1 ≤ j → upd y m (trimT k m) j = 0 from fun j hj => by
            rw [upd_other _ _ _ _ (by omega)]; exact hy0 j (by omega))))
          clear K hy hy0
          show Exit.inBlock _ _ _ _ _
          go_wp2
          go_roundw
          case rel => first | exact ⟨m + 1, _, by omega, by go_num, HS.out⟩ | ((repeat apply Exists.intro); refine ⟨⟨m + 1, _, by omega, by go_num, HS.out⟩, rfl⟩)
          case measure => simp [intOf]; omega
        · obtain rfl : m = 16 := by omega
          clear hlt hm g1
          have hY := (K.get _ _ _ _ List.mem_cons_self).congr (g := byB (trimT k)) (fun j hj => by
            unfold byB
            by_cases e : j < 16
            · rw [if_pos e]; exact hy j e
            · rw [if_neg e]; exact hy0 j (by omega))
          replace K : Kr w (Y + 1) [(Y, .u8, 17, byB (trimT k)), (S, .u8, 16, fun j => k (16 + j))] [(w.heap.size + 1, 16)] wr := ⟨fun p hp => by
            rcases List.mem_cons.1 hp with rfl | hp
            · exact ⟨hY, (K.rows _ List.mem_cons_self).2⟩
            · obtain rfl := List.mem_singleton.1 hp; exact K.rows _ (List.mem_cons_of_mem _ (List.mem_cons_of_mem _ List.mem_cons_self)), K.room, (fun p hp q hq => by
            rcases List.mem_cons.1 hp with rfl | hp
            · exact K.apart _ List.mem_cons_self q hq
            · obtain rfl := List.mem_singleton.1 hp; exact K.apart _ (List.mem_cons_of_mem _ (List.mem_cons_of_mem _ List.mem_cons_self)) q hq), K.size, K.base, K.below⟩
          clear hY hy hy0
          go_upto_region 14 with fail
          refine wp_region_list ?_
          refine pureL (.agg (row .u8 17 (fun _ => 0)).toArray) rfl (fun _ => by kernel_rfl) ?_
          simp only [Act.put, List.setIfInBounds_toArray, List.set_cons_zero, List.set_cons_succ]
          refine allocL #[.int .u8 0, .int .u8 0, .int .u8 0, .int .u8 0, .int .u8 0, .int .u8 0, .int .u8 0, .int .u8 0, .int .u8 0, .int .u8 0, .int .u8 0, .int .u8 0, .int .u8 0, .int .u8 0, .int .u8 0, .int .u8 0, .int .u8 0] 33 rfl (fun _ => by kernel_rfl) ?_
          simp only [Act.put, List.setIfInBounds_toArray, List.set_cons_zero, List.set_cons_succ]
          refine storesL .u8 17 (fun _ => 0) wr.heap.size 33 _ _ rfl rfl rfl rfl (room_of (big_zero _ _ _ rfl).there) (big_info' _) ?_
          simp only [Act.put]
          have zX := K.size
          replace K := K.fresh .u8 17 (fun _ => 0) #[.int .u8 0, .int .u8 0, .int .u8 0, .int .u8 0, .int .u8 0, .int .u8 0, .int .u8 0, .int .u8 0, .int .u8 0, .int .u8 0, .int .u8 0, .int .u8 0, .int .u8 0, .int .u8 0, .int .u8 0, .int .u8 0, .int .u8 0] 33 (big_zero _ _ _ rfl).there
          generalize ((wr.alloc (.cells #[.int .u8 0, .int .u8 0, .int .u8 0, .int .u8 0, .int .u8 0, .int .u8 0, .int .u8 0, .int .u8 0, .int .u8 0, .int .u8 0, .int .u8 0, .int .u8 0, .int .u8 0, .int .u8 0, .int .u8 0, .int .u8 0, .int .u8 0] 33)).setCells wr.heap.size 0 (row .u8 17 (fun _ => 0))) = w8 at K ⊢
          generalize wr.heap.size = X at *
          show Exit.then _ _ _ _ _
          go_wp2
          go_loopw [11] (fun i w' => ∃ (t : Nat) (a : Nat → Int), 16 * t < len + 16 ∧ i = .int .i64 (16 * (t : Int)) ∧ Kr w (X + 1) [(X, .u8, 17, a), (Y, .u8, 17, byB (trimT k)), (S, .u8, 16, fun j => k (16 + j))] [(w.heap.size + 1, 16)] w' ∧ In 256 17 a ∧ val 256 a 17 = acc (pR k) len z t) (fun i _ => len + 16 - (intOf i).toNat)
          case atStart => exact ⟨0, _, by omega, rfl, K, fun _ _ => ⟨Int.le_refl 0, (by decide : (0 : Int) < 256)⟩, by show val 256 (fun _ => 0) 17 = 0; decide⟩
          case round =>
            clear K
            obtain ⟨t, a, ht, rfl, K, ha, hv⟩ := hrel
            have g1 : (0 : Int) ≤ 16 * (t : Int) := by omega
            by_cases hlt : 16 * t < len
            · have g2 : 16 * (t : Int) < (len : Int) := by omega
              obtain ⟨M, hM⟩ : ∃ M : Nat, M = min (16 * t + 16) len := ⟨_, rfl⟩
              have hm : (if (len : Int) < 16 * (t : Int) + 16 then (len : Int) else 16 * (t : Int) + 16) = (M : Int) := by rw [hM]; split <;> omega
              obtain ⟨sq, hq1, hq2⟩ := cut_lh (P := Tryd.prog) (t := 24) (by kernel_rfl) (fun _ => by kernel_rfl) sp len cap (16 * t) M (by omega) (by omega) hcap
              have hpc : M - 16 * t = pcN len t := by unfold pcN; omega
              rw [hpc] at hq1 hq2
              have ec : ((16 * t : Nat) : Int) = 16 * (t : Int) := by omega
              rw [ec] at hq1
              go_upto_region 18 with fail
              refine wp_region_list ?_
              refine pureL (.slice sp len cap) rfl (fun _ => by kernel_rfl) ?_
              simp only [Act.put, List.setIfInBounds_toArray, List.set_cons_zero, List.set_cons_succ]
              refine pureL (.int .i64 (16 * (t : Int))) rfl (fun _ => by kernel_rfl) ?_
              simp only [Act.put, List.setIfInBounds_toArray, List.set_cons_zero, List.set_cons_succ]
              refine pureL (.int .i64 (16 * (t : Int))) rfl (fun _ => by kernel_rfl) ?_
              simp only [Act.put, List.setIfInBounds_toArray, List.set_cons_zero, List.set_cons_succ]
              refine pureL (.int .i64 (16 * (t : Int) + 16)) rfl (fun w => addI .i64 _ _ _ _ _ _ _ rfl rfl rfl (by rw [IntKind.wrap_i64]; omega) w) ?_
              simp only [Act.put, List.setIfInBounds_toArray, List.set_cons_zero, List.set_cons_succ]
              refine pureL (.slice sp len cap) rfl (fun _ => by kernel_rfl) ?_
              simp only [Act.put, List.setIfInBounds_toArray, List.set_cons_zero, List.set_cons_succ]
              refine pureL (.int .i64 (len : Int)) rfl (fun w => lenS _ 24 5 sp len cap rfl Tryd.underlying24 rfl w) ?_
              simp only [Act.put, List.setIfInBounds_toArray, List.set_cons_zero, List.set_cons_succ]
              refine pureL (.int .i64 (M : Int)) rfl (fun w => minI .i64 .i64 _ _ _ _ _ _ _ rfl rfl rfl hm w) ?_
              simp only [Act.put, List.setIfInBounds_toArray, List.set_cons_zero, List.set_cons_succ]
              refine pureL (.slice sq (pcN len t) (cap - 16 * t)) rfl (fun w => cutLHop _ _ _ _ _ _ _ _ rfl rfl rfl rfl (hq1 w)) ?_
              simp only [Act.put, List.setIfInBounds_toArray, List.set_cons_zero, List.set_cons_succ]
              refine callL rfl (fun _ => by kernel_rfl) (refBlock_any sq (pcN len t) (cap - 16 * t) (fun j => z (16 * t + j)) _ ((hq2 _ _ hs).below K.below (Nat.le_refl _))) ?_
              rintro e w9 ⟨rfl, l⟩
              replace K := K.call l
              clear l
              refine ⟨_, rfl, ?_⟩
              simp only [Act.put, List.setIfInBounds_toArray, List.set_cons_zero, List.set_cons_succ]
              refine pureL (.tuple #[.agg (row .u8 17 (piece len z t)).toArray, .int .i64 (blkE (pcN len t))]) rfl (fun _ => by kernel_rfl) ?_
              simp only [Act.put, List.setIfInBounds_toArray, List.set_cons_zero, List.set_cons_succ]
              refine pureL (.agg (row .u8 17 (piece len z t)).toArray) rfl (fun _ => by kernel_rfl) ?_
              simp only [Act.put, List.setIfInBounds_toArray, List.set_cons_zero, List.set_cons_succ]
              refine pureL (.int .i64 (blkE (pcN len t))) rfl (fun _ => by kernel_rfl) ?_
              simp only [Act.put, List.setIfInBounds_toArray, List.set_cons_zero, List.set_cons_succ]
              refine allocL #[.int .u8 0, .int .u8 0, .int .u8 0, .int .u8 0, .int .u8 0, .int .u8 0, .int .u8 0, .int .u8 0, .int .u8 0, .int .u8 0, .int .u8 0, .int .u8 0, .int .u8 0, .int .u8 0, .int .u8 0, .int .u8 0, .int .u8 0] 33 rfl (fun _ => by kernel_rfl) ?_
              simp only [Act.put, List.setIfInBounds_toArray, List.set_cons_zero, List.set_cons_succ]
              refine storesL .u8 17 (piece len z t) w9.heap.size 33 _ _ rfl rfl rfl rfl (room_of (big_zero _ _ _ rfl).there) (big_info' _) ?_
              simp only [Act.put]
              have zG := K.size
              replace K := K.fresh .u8 17 (piece len z t) #[.int .u8 0, .int .u8 0, .int .u8 0, .int .u8 0, .int .u8 0, .int .u8 0, .int .u8 0, .int .u8 0, .int .u8 0, .int .u8 0, .int .u8 0, .int .u8 0, .int .u8 0, .int .u8 0, .int .u8 0, .int .u8 0, .int .u8 0] 33 (big_zero _ _ _ rfl).there
              generalize ((w9.alloc (.cells #[.int .u8 0, .int .u8 0, .int .u8 0, .int .u8 0, .int .u8 0, .int .u8 0, .int .u8 0, .int .u8 0, .int .u8 0, .int .u8 0, .int .u8 0, .int .u8 0, .int .u8 0, .int .u8 0, .int .u8 0, .int .u8 0, .int .u8 0] 33)).setCells w9.heap.size 0 (row .u8 17 (piece len z t))) = w10 at K ⊢
              generalize w9.heap.size = G at *
              refine pureL (.int .i64 (blkE (pcN len t))) rfl (fun _ => by kernel_rfl) ?_
              simp only [Act.put, List.setIfInBounds_toArray, List.set_cons_zero, List.set_cons_succ]
              show Exit.then _ _ _ _ _
              clear hm hM hq1 hq2 hpc ec
              go_upto_region 19 with fail
              refine wp_region_C (S := fun w' => Kr w (G + 1) [(G, .u8, 17, piece len z t), (X, .u8, 17, a), (Y, .u8, 17, byB (trimT k)), (S, .u8, 16, fun j => k (16 + j))] [(w.heap.size + 1, 16)] w') 5 (by kernel_rfl) K.drew ?_
              clear K
              intro K
              refine rowC (i := 0) (some 62) rfl .u8 17 (a) (X) 0 33 _ _ rfl rfl (by kernel_rfl) rfl rfl rfl (by kernel_rfl) (by kernel_rfl) (by kernel_rfl) (by kernel_rfl) (fun _ _ _ h => h) Tryd.underlying33 rfl (big_info _) K (fun _ h => (h.get _ _ _ _ (List.mem_cons_of_mem _ List.mem_cons_self)).range) ?_
              simp only [Act.put, List.setIfInBounds_toArray, List.set_cons_zero, List.set_cons_succ]
              refine rowC (i := 1) (some 63) rfl .u8 17 (piece len z t) (G) 0 33 _ _ rfl rfl (by kernel_rfl) rfl rfl rfl (by kernel_rfl) (by kernel_rfl) (by kernel_rfl) (by kernel_rfl) (fun _ _ _ h => h) Tryd.underlying33 rfl (big_info _) K (fun _ h => (h.get _ _ _ _ List.mem_cons_self).range) ?_
              simp only [Act.put, List.setIfInBounds_toArray, List.set_cons_zero, List.set_cons_succ]
              refine rowC (i := 3) (some 65) rfl .u8 17 (byB (trimT k)) (Y) 0 33 _ _ rfl rfl (by kernel_rfl) rfl rfl rfl (by kernel_rfl) (by kernel_rfl) (by kernel_rfl) (by kernel_rfl) (fun _ _ _ h => h) Tryd.underlying33 rfl (big_info _) K (fun _ h => (h.get _ _ _ _ (List.mem_cons_of_mem _ (List.mem_cons_of_mem _ List.mem_cons_self))).range) ?_
              simp only [Act.put, List.setIfInBounds_toArray, List.set_cons_zero, List.set_cons_succ]
              refine callMC (i := 2) (some 64) rfl (by kernel_rfl) rfl rfl (fun _ => by kernel_rfl) (refAdd_any a (piece len z t) ha (piece_in len z t hz) _) ?_
              rintro e w11 ⟨f1, rfl, s1, l⟩
              replace K := K.call l
              clear l
              refine ⟨_, rfl, K, ?_⟩
              simp only [Act.put, List.setIfInBounds_toArray, List.set_cons_zero, List.set_cons_succ]
              refine callMC (i := 4) (some 66) rfl (by kernel_rfl) rfl rfl (fun _ => by kernel_rfl) (refMul_any f1 (byB (trimT k)) s1.1 (byB_in _ (trimT_in k hk1)) _) ?_
              rintro e w12 ⟨f2, rfl, s2, l⟩
              replace K := K.call l
              clear l
              refine ⟨_, rfl, K, ?_⟩
              simp only [Act.put, List.setIfInBounds_toArray, List.set_cons_zero, List.set_cons_succ]
              refine storesC (S2 := fun _ => True) none rfl .u8 17 f2 X 33 _ _ (by kernel_rfl) rfl rfl rfl rfl rfl (big_there (K.get _ _ _ _ (List.mem_cons_of_mem _ List.mem_cons_self))) (big_info' _) (by kernel_rfl) ?_
              simp only [Act.put]
              refine wpAnyH_done (by kernel_rfl) ?_ _
              have hv2 : val 256 f2 17 = acc (pR k) len z (t + 1) := acc_step (by rw [s1.2, hv]) (byB_val (trimT k)) s2.2
              replace K := K.set [(G, .u8, 17, piece len z t), (Y, .u8, 17, byB (trimT k)), (S, .u8, 16, fun j => k (16 + j))] X .u8 17 a f2 (List.mem_cons_of_mem _ List.mem_cons_self) (fun p hp => by rcases List.mem_cons.1 hp with rfl | hp; exact List.mem_cons_self; rcases List.mem_cons.1 hp with rfl | hp; exact (List.mem_cons_of_mem _ (List.mem_cons_of_mem _ List.mem_cons_self)); obtain rfl := List.mem_singleton.1 hp; exact (List.mem_cons_of_mem _ (List.mem_cons_of_mem _ (List.mem_cons_of_mem _ List.mem_cons_self)))) (fun p hp => by rcases List.mem_cons.1 hp with rfl | hp; simp only; omega; rcases List.mem_cons.1 hp with rfl | hp; simp only; omega; obtain rfl := List.mem_singleton.1 hp; simp only; omega) (by omega)
              replace K := K.back [(X, .u8, 17, f2), (Y, .u8, 17, byB (trimT k)), (S, .u8, 16, fun j => k (16 + j))] (X + 1) (fun p hp => by rcases List.mem_cons.1 hp with rfl | hp; exact List.mem_cons_self; rcases List.mem_cons.1 hp with rfl | hp; exact (List.mem_cons_of_mem _ (List.mem_cons_of_mem _ List.mem_cons_self)); obtain rfl := List.mem_singleton.1 hp; exact (List.mem_cons_of_mem _ (List.mem_cons_of_mem _ (List.mem_cons_of_mem _ List.mem_cons_self)))) (fun p hp => by rcases List.mem_cons.1 hp with rfl | hp; simp only; omega; rcases List.mem_cons.1 hp with rfl | hp; simp only; omega; obtain rfl := List.mem_singleton.1 hp; simp only; omega) (fun q hq => by obtain rfl := List.mem_singleton.1 hq; simp only; omega) (by omega) (by omega)
              have HS := show Hid _ from (And.intro K (And.intro s2.1 hv2))
              clear K s1 s2 hv hv2 ha
              generalize w12.setCells X 0 (row .u8 17 f2) = w13 at HS ⊢
              go_wp2
              go_roundw
              case rel => first | exact ⟨t + 1, f2, by omega, by go_num, HS.out⟩ | ((repeat apply Exists.intro); refine ⟨⟨t + 1, f2, by omega, by go_num, HS.out⟩, rfl⟩)
              case measure => simp [intOf]; omega
            · obtain rfl : t = npc len := by unfold npc; omega
              go_upto_region 20 with fail
              refine wp_region_list ?_
              refine rowKL .u8 17 (a) (X) 0 33 _ _ rfl rfl rfl Tryd.underlying33 rfl (big_info _) ((K.get _ _ _ _ List.mem_cons_self).range) ?_
              simp only [Act.put, List.setIfInBounds_toArray, List.set_cons_zero, List.set_cons_succ]
              refine rowKL .u8 16 (fun j => k (16 + j)) (S) 0 27 _ _ rfl rfl rfl Tryd.underlying27 rfl (tag_info _) ((K.get _ _ _ _ (List.mem_cons_of_mem _ (List.mem_cons_of_mem _ List.mem_cons_self))).range) ?_
              simp only [Act.put, List.setIfInBounds_toArray, List.set_cons_zero, List.set_cons_succ]
              refine callL rfl (fun _ => by kernel_rfl) (refLow_any a (fun j => k (16 + j)) ha hk2 _) ?_
              rintro e w9 ⟨f, rfl, s1, l⟩
              replace K := K.call l
              clear l
              refine ⟨_, rfl, ?_⟩
              simp only [Act.put, List.setIfInBounds_toArray, List.set_cons_zero, List.set_cons_succ]
              have hz' := (K.room _ List.mem_cons_self).1
              refine storesL .u8 16 f (w.heap.size + 1) 27 _ _ rfl rfl rfl rfl (room_of hz') (tag_info' _) ?_
              simp only [Act.put]
              have hB := (K.fill _ _ List.mem_cons_self (row .u8 16 f)).below
              have HE := show Hid _ from (And.intro s1.1 (show val 256 f 16 = ptag k len z by rw [s1.2, hv]; rfl))
              clear K s1 hv ha hlt ht g1
              show Exit.then _ _ _ _ _
              go_wp2
              exact bodyPost_ret (v := (.agg (row .u8 16 (f)).toArray)) (results_row Tryd.results10 rfl (Has.all hz' .u8 f).range Tryd.underlying27 rfl (tag_info f)) rfl ⟨f, rfl, HE.out, hB⟩
end Go.Proofs.YtnphoennagmiaaaDoor
