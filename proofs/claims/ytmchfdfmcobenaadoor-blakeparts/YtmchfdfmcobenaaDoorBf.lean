/- What the program's spread answers. -/
import Derived.Test.YtmchfdfmcobenaaDoorBc
namespace Go.Proofs.YtmchfdfmcobenaaDoor
open Go.RowKit

set_option maxRecDepth 10000 in
set_option maxHeartbeats 8000000 in
theorem bspread_any (h : Nat → Int) (t : Int) (last : Bool) (w : World) (hg : BGlob w) :
    Calls Tryd.prog 29 #[(.agg (row .u32 8 (h)).toArray), .int .u64 t, .bool last] w fun e w' => e = .returned (.agg (row .u32 16 (bst h t last)).toArray) ∧ Below w.heap.size w w' := by
  have K := Kr.init w
  replace K := K.box .u32 8 h 38 (w.heap.size) rfl
  replace K := K.make 16 #[.int .u32 0, .int .u32 0, .int .u32 0, .int .u32 0, .int .u32 0, .int .u32 0, .int .u32 0, .int .u32 0, .int .u32 0, .int .u32 0, .int .u32 0, .int .u32 0, .int .u32 0, .int .u32 0, .int .u32 0, .int .u32 0] 49 (w.heap.size + 1) (by simp) (bwd_zero _ _ _ (by simp)).there
  replace K := K.boxO .u32 16 (fun _ => 0) (.cells #[.int .u32 0, .int .u32 0, .int .u32 0, .int .u32 0, .int .u32 0, .int .u32 0, .int .u32 0, .int .u32 0, .int .u32 0, .int .u32 0, .int .u32 0, .int .u32 0, .int .u32 0, .int .u32 0, .int .u32 0, .int .u32 0] 49) (w.heap.size + 1 + 1) (by simp) (bwd_zero _ _ _ (by simp))
  go_enter Tryd.func29, Tryd.ntmps29
  go_upto_region 2 with fail
  generalize (((w.alloc (.cells (row .u32 8 h).toArray 38)).alloc (.cells #[.int .u32 0, .int .u32 0, .int .u32 0, .int .u32 0, .int .u32 0, .int .u32 0, .int .u32 0, .int .u32 0, .int .u32 0, .int .u32 0, .int .u32 0, .int .u32 0, .int .u32 0, .int .u32 0, .int .u32 0, .int .u32 0] 49)).alloc (.cells #[.int .u32 0, .int .u32 0, .int .u32 0, .int .u32 0, .int .u32 0, .int .u32 0, .int .u32 0, .int .u32 0, .int .u32 0, .int .u32 0, .int .u32 0, .int .u32 0, .int .u32 0, .int .u32 0, .int .u32 0, .int .u32 0] 49)) = w0 at K ⊢
  go_wp2
  go_loopw [9] (fun i w' => ∃ (n : Nat) (f : Nat → Int), n ≤ 8 ∧ i = .int .i64 n ∧ Kr w (w.heap.size + 1 + 1 + 1) [(w.heap.size + 1 + 1, .u32, 16, f), (w.heap.size, .u32, 8, h)] [(w.heap.size + 1, 16)] w' ∧ ∀ j, j < n → f j = h j ∧ f (j + 8) = iv j) (fun i _ => 8 - (intOf i).toNat)
  case atStart => exact ⟨0, _, by omega, rfl, K, fun j hj => by omega⟩
  case round =>
    clear K
    obtain ⟨n, f, hn, rfl, K, hd⟩ := hrel
    have g1 : (0 : Int) ≤ (n : Int) := by omega
    by_cases hlt : n < 8
    · have g2 : (n : Int) < 8 := by omega
      have l8 : n < 16 := by omega
      have l88 : n + 8 < 16 := by omega
      go_upto_region 5 with fail
      have HR := (K.get _ _ _ _ List.mem_cons_self).drew
      replace K := K.loose [(w.heap.size, .u32, 8, h)] (w.heap.size + 1 + 1) .u32 16 f List.mem_cons_self (fun p hp => by obtain rfl := List.mem_singleton.1 hp; exact (List.mem_cons_of_mem _ List.mem_cons_self)) (fun p hp => by obtain rfl := List.mem_singleton.1 hp; simp only; omega) (by omega)
      refine wp_region_held_drew (S := fun w' => Kr w (w.heap.size + 1 + 1 + 1) [(w.heap.size, .u32, 8, h)] [(w.heap.size + 1 + 1, 16), (w.heap.size + 1, 16)] w') (by kernel_rfl) K.drew ?_
      clear K
      intro K
      generalize wr.drew = w1 at K HR ⊢
      refine pureH (i := 0) (some 12) rfl (.int .i64 (n : Int)) rfl rfl (fun _ => by kernel_rfl) (by kernel_rfl) (by kernel_rfl) (by kernel_rfl) (fun _ _ _ h => h) K ?_
      simp only [Act.put, List.setIfInBounds_toArray, List.set_cons_zero, List.set_cons_succ]
      refine pureH (i := 1) (some 13) rfl (.int .i64 (n : Int)) rfl rfl (fun _ => by kernel_rfl) (by kernel_rfl) (by kernel_rfl) (by kernel_rfl) (fun _ _ _ h => h) K ?_
      simp only [Act.put, List.setIfInBounds_toArray, List.set_cons_zero, List.set_cons_succ]
      refine pureH (i := 2) (some 14) rfl (.int .i64 ((n + 8 : Nat) : Int)) rfl rfl (fun w => addI .i64 _ _ _ _ _ _ _ rfl rfl rfl (by rw [IntKind.wrap_i64]; omega) w) (by kernel_rfl) (by kernel_rfl) (by kernel_rfl) (fun _ _ _ h => h) K ?_
      simp only [Act.put, List.setIfInBounds_toArray, List.set_cons_zero, List.set_cons_succ]
      refine pureH (i := 3) (some 15) rfl (.int .i64 (n : Int)) rfl rfl (fun _ => by kernel_rfl) (by kernel_rfl) (by kernel_rfl) (by kernel_rfl) (fun _ _ _ h => h) K ?_
      simp only [Act.put, List.setIfInBounds_toArray, List.set_cons_zero, List.set_cons_succ]
      refine pureH (i := 4) (some 16) rfl (.pointer (some ⟨w.heap.size, n, none⟩)) rfl rfl (fun w' => ixS (w.heap.size) n hlt w' _ _ rfl rfl rfl) (by kernel_rfl) (by kernel_rfl) (by kernel_rfl) (fun _ _ _ h => h) K ?_
      simp only [Act.put, List.setIfInBounds_toArray, List.set_cons_zero, List.set_cons_succ]
      refine cellH (i := 5) (some 17) rfl .u32 (.int .u32 (h n)) (w.heap.size) n 36 _ rfl rfl rfl rfl (by kernel_rfl) (by kernel_rfl) (by kernel_rfl) (fun _ _ _ h => h) Tryd.underlying36 K (fun _ h => (h.get _ _ _ _ List.mem_cons_self).cell n hlt) ?_
      simp only [Act.put, List.setIfInBounds_toArray, List.set_cons_zero, List.set_cons_succ]
      refine pureH (i := 6) (some 18) rfl (.int .i64 (n : Int)) rfl rfl (fun _ => by kernel_rfl) (by kernel_rfl) (by kernel_rfl) (by kernel_rfl) (fun _ _ _ h => h) K ?_
      simp only [Act.put, List.setIfInBounds_toArray, List.set_cons_zero, List.set_cons_succ]
      refine pureH (i := 7) (some 19) rfl (.pointer (some ⟨0, n, none⟩)) rfl rfl (fun w' => ixV 0 n hlt w' _ _ rfl rfl rfl) (by kernel_rfl) (by kernel_rfl) (by kernel_rfl) (fun _ _ _ h => h) K ?_
      simp only [Act.put, List.setIfInBounds_toArray, List.set_cons_zero, List.set_cons_succ]
      refine cellH (i := 8) (some 20) rfl .u32 (.int .u32 (iv n)) 0 n 36 _ rfl rfl rfl rfl (by kernel_rfl) (by kernel_rfl) (by kernel_rfl) (fun _ _ _ h => h) Tryd.underlying36 K (fun _ h => (hg.below h.below hg.size).first n hlt) ?_
      simp only [Act.put, List.setIfInBounds_toArray, List.set_cons_zero, List.set_cons_succ]
      refine pureH (i := 9) (some 21) rfl (.pointer (some ⟨w.heap.size + 1 + 1, n, none⟩)) rfl rfl (fun w' => ixW (w.heap.size + 1 + 1) (n) l8 w' _ _ rfl rfl rfl) (by kernel_rfl) (by kernel_rfl) (by kernel_rfl) (fun _ _ _ h => h) K ?_
      simp only [Act.put, List.setIfInBounds_toArray, List.set_cons_zero, List.set_cons_succ]
      refine storeH (i := 10) none rfl .u32 (h n) (w.heap.size + 1 + 1) (n) 36 _ _ (by kernel_rfl) rfl rfl rfl rfl rfl (by rw [HR.cell (n) l8]; rfl) (HR.free (n) l8) (by kernel_rfl) (K.poke (w.heap.size + 1 + 1) 16 List.mem_cons_self (n) [.int .u32 (h n)]) ?_
      simp only [Act.put]
      replace K := K.poke (w.heap.size + 1 + 1) 16 List.mem_cons_self (n) [.int .u32 (h n)]
      replace HR := HR.set (n) l8 (h n)
      refine pureH (i := 11) (some 22) rfl (.pointer (some ⟨w.heap.size + 1 + 1, n + 8, none⟩)) rfl rfl (fun w' => ixW (w.heap.size + 1 + 1) (n + 8) l88 w' _ _ rfl rfl rfl) (by kernel_rfl) (by kernel_rfl) (by kernel_rfl) (fun _ _ _ h => h) K ?_
      simp only [Act.put, List.setIfInBounds_toArray, List.set_cons_zero, List.set_cons_succ]
      refine storeH (i := 12) none rfl .u32 (iv n) (w.heap.size + 1 + 1) (n + 8) 36 _ _ (by kernel_rfl) rfl rfl rfl rfl rfl (by rw [HR.cell (n + 8) l88]; rfl) (HR.free (n + 8) l88) (by kernel_rfl) (K.poke (w.heap.size + 1 + 1) 16 List.mem_cons_self (n + 8) [.int .u32 (iv n)]) ?_
      simp only [Act.put]
      replace K := K.poke (w.heap.size + 1 + 1) 16 List.mem_cons_self (n + 8) [.int .u32 (iv n)]
      replace HR := HR.set (n + 8) l88 (iv n)
      refine wpAnyH_done (by kernel_rfl) ?_ _
      replace K := K.settle [(w.heap.size + 1, 16)] (w.heap.size + 1 + 1) .u32 16 (upd (upd f n (h n)) (n + 8) (iv n)) List.mem_cons_self (fun q hq => List.mem_cons_of_mem _ hq) (fun q hq => by obtain rfl := List.mem_singleton.1 hq; simp only; omega) HR
      have HS := show Hid _ from (And.intro K (show ∀ j, j < n + 1 → (upd (upd f n (h n)) (n + 8) (iv n)) j = h j ∧ (upd (upd f n (h n)) (n + 8) (iv n)) (j + 8) = iv j from fun j hj => by
        by_cases e : j = n
        · subst e; rw [upd_other _ _ _ _ (show j ≠ j + 8 by omega), upd_same, upd_same]; exact ⟨rfl, rfl⟩
        · rw [upd_other _ _ _ _ (show j ≠ n + 8 by omega), upd_other _ _ _ _ e, upd_other _ _ _ _ (show j + 8 ≠ n + 8 by omega), upd_other _ _ _ _ (show j + 8 ≠ n by omega)]; exact hd j (by omega)))
      clear K HR hd
      generalize (upd (upd f n (h n)) (n + 8) (iv n)) = f' at HS
      go_wp2
      go_roundw
      case rel => first | exact ⟨n + 1, f', by omega, by go_num, HS.out⟩ | ((repeat apply Exists.intro); refine ⟨⟨n + 1, f', by omega, by go_num, HS.out⟩, rfl⟩)
      case measure => simp [intOf]; omega
    · obtain rfl : n = 8 := by omega
      have HR := (K.get _ _ _ _ List.mem_cons_self).congr (g := app h 8 iv) (fun j hj => by
        unfold app
        by_cases e : j < 8
        · rw [if_pos e]; exact (hd j e).1
        · rw [if_neg e]; have := (hd (j - 8) (by omega)).2; rw [show j - 8 + 8 = j by omega] at this; exact this)
      replace K := (K.loose [(w.heap.size, .u32, 8, h)] (w.heap.size + 1 + 1) .u32 16 f List.mem_cons_self (fun p hp => by obtain rfl := List.mem_singleton.1 hp; exact (List.mem_cons_of_mem _ List.mem_cons_self)) (fun p hp => by obtain rfl := List.mem_singleton.1 hp; simp only; omega) (by omega)).settle [(w.heap.size + 1, 16)] (w.heap.size + 1 + 1) .u32 16 (app h 8 iv) List.mem_cons_self (fun q hq => List.mem_cons_of_mem _ hq) (fun q hq => by obtain rfl := List.mem_singleton.1 hq; simp only; omega) HR
      clear HR hd hlt hn g1
      go_upto_region 7 with fail
      refine wp_region_list ?_
      refine pureL (.pointer (some ⟨w.heap.size + 1 + 1, 12, none⟩)) rfl (fun w' => ixW (w.heap.size + 1 + 1) 12 (by decide) w' _ _ rfl rfl rfl) ?_
      simp only [Act.put, List.setIfInBounds_toArray, List.set_cons_zero, List.set_cons_succ]
      refine cellL .u32 (.int .u32 (iv 4)) (w.heap.size + 1 + 1) 12 36 _ rfl rfl rfl Tryd.underlying36 ((K.get _ _ _ _ List.mem_cons_self).cell 12 (by decide)) ?_
      simp only [Act.put, List.setIfInBounds_toArray, List.set_cons_zero, List.set_cons_succ]
      refine pureL (.int .u64 t) rfl (fun _ => by kernel_rfl) ?_
      simp only [Act.put, List.setIfInBounds_toArray, List.set_cons_zero, List.set_cons_succ]
      refine pureL (.int .u32 (t % 4294967296)) rfl (fun w => convI .u64 .u32 _ _ _ _ _ rfl (by kernel_rfl) Tryd.underlying36 (by kernel_rfl) rfl (IntKind.wrap_u32' _) w) ?_
      simp only [Act.put, List.setIfInBounds_toArray, List.set_cons_zero, List.set_cons_succ]
      refine pureL (.int .u32 (hxr (iv 4) (t % 4294967296))) rfl (fun w => xorI .u32 _ _ _ _ _ _ _ rfl rfl rfl rfl w) ?_
      simp only [Act.put, List.setIfInBounds_toArray, List.set_cons_zero, List.set_cons_succ]
      refine pureL (.pointer (some ⟨w.heap.size + 1 + 1, 12, none⟩)) rfl (fun w' => ixW (w.heap.size + 1 + 1) 12 (by decide) w' _ _ rfl rfl rfl) ?_
      simp only [Act.put, List.setIfInBounds_toArray, List.set_cons_zero, List.set_cons_succ]
      refine storeL .u32 (hxr (iv 4) (t % 4294967296)) (w.heap.size + 1 + 1) 12 36 _ _ rfl rfl rfl rfl (by rw [(K.get _ _ _ _ List.mem_cons_self).cell 12 (by decide)]; rfl) ((K.get _ _ _ _ List.mem_cons_self).free 12 (by decide)) (by kernel_rfl) ?_
      simp only [Act.put]
      replace K := K.setCell [(w.heap.size, .u32, 8, h)] (w.heap.size + 1 + 1) .u32 16 (app h 8 iv) 12 (by decide) (hxr (iv 4) (t % 4294967296)) List.mem_cons_self (fun p hp => by obtain rfl := List.mem_singleton.1 hp; exact (List.mem_cons_of_mem _ List.mem_cons_self)) (fun p hp => by obtain rfl := List.mem_singleton.1 hp; simp only; omega) (by omega)
      generalize wr.setCell ⟨w.heap.size + 1 + 1, 12, none⟩ (.int .u32 (hxr (iv 4) (t % 4294967296))) = w2 at K ⊢
      show Exit.then _ _ _ _ _
      go_upto_region 8 with fail
      refine wp_region_list ?_
      refine pureL (.pointer (some ⟨w.heap.size + 1 + 1, 13, none⟩)) rfl (fun w' => ixW (w.heap.size + 1 + 1) 13 (by decide) w' _ _ rfl rfl rfl) ?_
      simp only [Act.put, List.setIfInBounds_toArray, List.set_cons_zero, List.set_cons_succ]
      refine cellL .u32 (.int .u32 (iv 5)) (w.heap.size + 1 + 1) 13 36 _ rfl rfl rfl Tryd.underlying36 ((K.get _ _ _ _ List.mem_cons_self).cell 13 (by decide)) ?_
      simp only [Act.put, List.setIfInBounds_toArray, List.set_cons_zero, List.set_cons_succ]
      refine pureL (.int .u64 t) rfl (fun _ => by kernel_rfl) ?_
      simp only [Act.put, List.setIfInBounds_toArray, List.set_cons_zero, List.set_cons_succ]
      refine pureL (.int .u64 (t / 4294967296)) rfl (fun w => shrI .u64 .u64 _ 32 _ _ _ _ _ rfl rfl rfl (by decide) rfl w) ?_
      simp only [Act.put, List.setIfInBounds_toArray, List.set_cons_zero, List.set_cons_succ]
      refine pureL (.int .u32 (t / 4294967296 % 4294967296)) rfl (fun w => convI .u64 .u32 _ _ _ _ _ rfl (by kernel_rfl) Tryd.underlying36 (by kernel_rfl) rfl (IntKind.wrap_u32' _) w) ?_
      simp only [Act.put, List.setIfInBounds_toArray, List.set_cons_zero, List.set_cons_succ]
      refine pureL (.int .u32 (hxr (iv 5) (t / 4294967296 % 4294967296))) rfl (fun w => xorI .u32 _ _ _ _ _ _ _ rfl rfl rfl rfl w) ?_
      simp only [Act.put, List.setIfInBounds_toArray, List.set_cons_zero, List.set_cons_succ]
      refine pureL (.pointer (some ⟨w.heap.size + 1 + 1, 13, none⟩)) rfl (fun w' => ixW (w.heap.size + 1 + 1) 13 (by decide) w' _ _ rfl rfl rfl) ?_
      simp only [Act.put, List.setIfInBounds_toArray, List.set_cons_zero, List.set_cons_succ]
      refine storeL .u32 (hxr (iv 5) (t / 4294967296 % 4294967296)) (w.heap.size + 1 + 1) 13 36 _ _ rfl rfl rfl rfl (by rw [(K.get _ _ _ _ List.mem_cons_self).cell 13 (by decide)]; rfl) ((K.get _ _ _ _ List.mem_cons_self).free 13 (by decide)) (by kernel_rfl) ?_
      simp only [Act.put]
      replace K := K.setCell [(w.heap.size, .u32, 8, h)] (w.heap.size + 1 + 1) .u32 16 (upd (app h 8 iv) 12 (hxr (iv 4) (t % 4294967296))) 13 (by decide) (hxr (iv 5) (t / 4294967296 % 4294967296)) List.mem_cons_self (fun p hp => by obtain rfl := List.mem_singleton.1 hp; exact (List.mem_cons_of_mem _ List.mem_cons_self)) (fun p hp => by obtain rfl := List.mem_singleton.1 hp; simp only; omega) (by omega)
      generalize w2.setCell ⟨w.heap.size + 1 + 1, 13, none⟩ (.int .u32 (hxr (iv 5) (t / 4294967296 % 4294967296))) = w3 at K ⊢
      show Exit.then _ _ _ _ _
      have hcon := bst_of h t (upd (upd (app h 8 iv) 12 (hxr (iv 4) (t % 4294967296))) 13 (hxr (iv 5) (t / 4294967296 % 4294967296))) last (fun _ => rfl)
      cases last
      · have HR := (K.get _ _ _ _ List.mem_cons_self).congr (g := bst h t false) hcon
        have hz' := (K.room _ List.mem_cons_self).1
        have hB := (K.fill _ _ List.mem_cons_self (row .u32 16 (bst h t false))).below
        clear K hcon
        generalize hf : bst h t false = g at *
        go_wp2_with (first | (refine wpList_load_mid rfl 49 _ rfl (w.heap.size + 1 + 1) 0 rfl (row .u32 16 (g)) _ (Has.range (HR)) Tryd.underlying49 rfl (bwd_info _) ?_) | (refine wpList_store_mid rfl 49 _ _ rfl (w.heap.size + 1) 0 (row .u32 16 g).toArray rfl rfl (room_of hz') (bwd_info' _) (all_oneCell_toArray (row_one _ _ _)) ?_))
        exact bodyPost_ret (v := (.agg (row .u32 16 (g)).toArray)) (results_row Tryd.results29 rfl (Has.all hz' .u32 g).range Tryd.underlying49 rfl (bwd_info g)) rfl ⟨rfl, hB⟩
      · go_upto_region 10 with fail
        refine wp_region_list ?_
        refine pureL (.pointer (some ⟨w.heap.size + 1 + 1, 14, none⟩)) rfl (fun w' => ixW (w.heap.size + 1 + 1) 14 (by decide) w' _ _ rfl rfl rfl) ?_
        simp only [Act.put, List.setIfInBounds_toArray, List.set_cons_zero, List.set_cons_succ]
        refine cellL .u32 (.int .u32 (iv 6)) (w.heap.size + 1 + 1) 14 36 _ rfl rfl rfl Tryd.underlying36 ((K.get _ _ _ _ List.mem_cons_self).cell 14 (by decide)) ?_
        simp only [Act.put, List.setIfInBounds_toArray, List.set_cons_zero, List.set_cons_succ]
        refine pureL (.int .u32 (4294967295 - iv 6)) rfl (fun w => notI .u32 _ _ _ _ rfl rfl (by decide +kernel) w) ?_
        simp only [Act.put, List.setIfInBounds_toArray, List.set_cons_zero, List.set_cons_succ]
        refine pureL (.pointer (some ⟨w.heap.size + 1 + 1, 14, none⟩)) rfl (fun w' => ixW (w.heap.size + 1 + 1) 14 (by decide) w' _ _ rfl rfl rfl) ?_
        simp only [Act.put, List.setIfInBounds_toArray, List.set_cons_zero, List.set_cons_succ]
        refine storeL .u32 (4294967295 - iv 6) (w.heap.size + 1 + 1) 14 36 _ _ rfl rfl rfl rfl (by rw [(K.get _ _ _ _ List.mem_cons_self).cell 14 (by decide)]; rfl) ((K.get _ _ _ _ List.mem_cons_self).free 14 (by decide)) (by kernel_rfl) ?_
        simp only [Act.put]
        replace K := K.setCell [(w.heap.size, .u32, 8, h)] (w.heap.size + 1 + 1) .u32 16 (upd (upd (app h 8 iv) 12 (hxr (iv 4) (t % 4294967296))) 13 (hxr (iv 5) (t / 4294967296 % 4294967296))) 14 (by decide) (4294967295 - iv 6) List.mem_cons_self (fun p hp => by obtain rfl := List.mem_singleton.1 hp; exact (List.mem_cons_of_mem _ List.mem_cons_self)) (fun p hp => by obtain rfl := List.mem_singleton.1 hp; simp only; omega) (by omega)
        generalize w3.setCell ⟨w.heap.size + 1 + 1, 14, none⟩ (.int .u32 (4294967295 - iv 6)) = w4 at K ⊢
        show Exit.then _ _ _ _ _
        have HR := (K.get _ _ _ _ List.mem_cons_self).congr (g := bst h t true) hcon
        have hz' := (K.room _ List.mem_cons_self).1
        have hB := (K.fill _ _ List.mem_cons_self (row .u32 16 (bst h t true))).below
        clear K hcon
        generalize hf : bst h t true = g at *
        go_wp2_with (first | (refine wpList_load_mid rfl 49 _ rfl (w.heap.size + 1 + 1) 0 rfl (row .u32 16 (g)) _ (Has.range (HR)) Tryd.underlying49 rfl (bwd_info _) ?_) | (refine wpList_store_mid rfl 49 _ _ rfl (w.heap.size + 1) 0 (row .u32 16 g).toArray rfl rfl (room_of hz') (bwd_info' _) (all_oneCell_toArray (row_one _ _ _)) ?_))
        exact bodyPost_ret (v := (.agg (row .u32 16 (g)).toArray)) (results_row Tryd.results29 rfl (Has.all hz' .u32 g).range Tryd.underlying49 rfl (bwd_info g)) rfl ⟨rfl, hB⟩
end Go.Proofs.YtmchfdfmcobenaaDoor
