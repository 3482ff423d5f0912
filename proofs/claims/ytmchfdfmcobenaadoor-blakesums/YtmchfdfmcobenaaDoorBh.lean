/- What the program's finish, run, behind and pad answer. -/
import Derived.Test.YtmchfdfmcobenaaDoorBe
import Derived.Test.YtmchfdfmcobenaaDoorSc
import Derived.Test.YtmchfdfmcobenaaDoorBu
namespace Go.Proofs.YtmchfdfmcobenaaDoor
open Go.RowKit

set_option maxRecDepth 10000 in
set_option maxHeartbeats 8000000 in
theorem bfinish_any (h0 : Nat → Int) (hh : In V 8 h0) (n : Nat) (f : Nat → Int) (c : Nat) (sp : Option Addr) (len cap : Nat) (hn : n ≤ 64 * c + len) (hn' : 64 * c + len ≤ n) (hc : c = 0 ∨ 0 < len) (hlen : n ≤ 281474976710656) (hcap : len ≤ cap) (z : Nat → Int) (hz : In 256 len z) (hf : ∀ j, f (64 * c + j) = padz len z j) (w : World) (hg : BGlob w) (hs : Src w sp len z) :
    Calls Tryd.prog 23 #[(.agg (row .u32 8 (tH h0 n f c)).toArray), .int .u64 ((64 * c : Nat) : Int), .slice sp len cap] w fun e w' => e = .returned (.agg (row .u32 8 (tH h0 n f (nbt n))).toArray) ∧ Below w.heap.size w w' := by
  have K := Kr.init w
  replace K := K.box .u32 8 (tH h0 n f c) 38 (w.heap.size) rfl
  replace K := K.make 8 #[.int .u32 0, .int .u32 0, .int .u32 0, .int .u32 0, .int .u32 0, .int .u32 0, .int .u32 0, .int .u32 0] 38 (w.heap.size + 1) (by simp) (bst_zero _ _ _ (by simp)).there
  go_enter Tryd.func23, Tryd.ntmps23
  go_upto_region 1 with fail
  generalize ((w.alloc (.cells (row .u32 8 (tH h0 n f c)).toArray 38)).alloc (.cells #[.int .u32 0, .int .u32 0, .int .u32 0, .int .u32 0, .int .u32 0, .int .u32 0, .int .u32 0, .int .u32 0] 38)) = w0 at K ⊢
  go_loopw [1, 2] (fun d b w' => ∃ (i L : Nat) (sq : Option Addr) (cq : Nat), 64 * i + L = len ∧ (c + i = 0 ∨ 0 < L) ∧ L ≤ cq ∧ d = .int .u64 ((64 * (c + i) : Nat) : Int) ∧ b = .slice sq L cq ∧ Src w sq L (fun j => z (64 * i + j)) ∧ Kr w (w.heap.size + 1 + 1) [(w.heap.size, .u32, 8, tH h0 n f (c + i))] [(w.heap.size + 1, 8)] w') (fun _ b _ => slen b)
  case atStart => exact ⟨0, len, sp, cap, by omega, by omega, hcap, rfl, rfl, by simpa using hs, K⟩
  case round =>
    clear K hs
    obtain ⟨i, L, sq, cq, hL, hp, hLc, rfl, rfl, hs, K⟩ := hrel
    by_cases hlt : 64 < L
    · have g1 : (64 : Int) < (L : Int) := by omega
      obtain ⟨sh, hh1, hh2⟩ := cut_hi (P := Tryd.prog) (t := 22) (by kernel_rfl) (fun _ => by kernel_rfl) sq L cq 64 (by omega) hLc
      obtain ⟨sl, hl1, hl2⟩ := cut_lo (P := Tryd.prog) (t := 22) (by kernel_rfl) (fun _ => by kernel_rfl) sq L cq 64 (by omega) hLc
      have HP := show Hid _ from (show bpr (tH h0 n f (c + i)) (padz 64 (fun j => z (64 * i + j))) ((64 * (c + i) + 64 : Nat) : Int) false = tH h0 n f (c + i + 1) from by
        have e1 : min (64 * (c + i) + 64) n = 64 * (c + i) + 64 := by omega
        have e2 : decide (c + i + 1 = nbt n) = false := decide_eq_false (by unfold nbt; rw [if_neg (by omega)]; omega)
        conv => rhs; unfold tH; rw [e1, e2]
        refine bpr_congr _ _ _ _ _ (fun j hj => ?_)
        have e3 := hf (64 * i + j)
        rw [show 64 * c + (64 * i + j) = 64 * (c + i) + j by omega] at e3
        rw [e3]
        unfold padz
        rw [if_pos hj, if_pos (by omega)])
      go_upto_region 2 with fail
      refine wp_region_list ?_
      refine pureL (.int .u64 ((64 * (c + i) : Nat) : Int)) rfl (fun _ => by kernel_rfl) ?_
      simp only [Act.put, List.setIfInBounds_toArray, List.set_cons_zero, List.set_cons_succ]
      refine pureL (.int .u64 ((64 * (c + i) + 64 : Nat) : Int)) rfl (fun w => addI .u64 _ _ _ _ _ _ _ rfl rfl rfl (by rw [IntKind.wrap_u64]; omega) w) ?_
      simp only [Act.put, List.setIfInBounds_toArray, List.set_cons_zero, List.set_cons_succ]
      refine pureL (.int .u64 ((64 * (c + i) + 64 : Nat) : Int)) rfl (fun _ => by kernel_rfl) ?_
      simp only [Act.put, List.setIfInBounds_toArray, List.set_cons_zero, List.set_cons_succ]
      show Exit.then _ _ _ _ _
      go_upto_region 3 with fail
      refine wp_region_C (S := fun w' => Kr w (w.heap.size + 1 + 1) [(w.heap.size, .u32, 8, tH h0 n f (c + i))] [(w.heap.size + 1, 8)] w') 6 (by kernel_rfl) K.drew ?_
      clear K
      intro K
      refine rowC (i := 0) (some 12) rfl .u32 8 (tH h0 n f (c + i)) (w.heap.size) 0 38 _ _ rfl rfl (by kernel_rfl) rfl rfl rfl (by kernel_rfl) (by kernel_rfl) (by kernel_rfl) (by kernel_rfl) (fun _ _ _ h => h) Tryd.underlying38 rfl (bst_info _) K (fun _ h => (h.get _ _ _ _ List.mem_cons_self).range) ?_
      simp only [Act.put, List.setIfInBounds_toArray, List.set_cons_zero, List.set_cons_succ]
      refine pureC (i := 1) (some 13) rfl (.slice sq L cq) rfl (by decide) rfl (fun _ => by kernel_rfl) (by kernel_rfl) (by kernel_rfl) (by kernel_rfl) (fun _ _ _ h => h) K ?_
      simp only [Act.put, List.setIfInBounds_toArray, List.set_cons_zero, List.set_cons_succ]
      refine pureC (i := 2) (some 14) rfl (.slice sh 64 cq) rfl (by decide) rfl (fun w => cutHi _ _ _ _ _ _ rfl rfl rfl (hh1 w)) (by kernel_rfl) (by kernel_rfl) (by kernel_rfl) (fun _ _ _ h => h) K ?_
      simp only [Act.put, List.setIfInBounds_toArray, List.set_cons_zero, List.set_cons_succ]
      refine pureC (i := 4) (some 16) rfl (.int .u64 ((64 * (c + i) + 64 : Nat) : Int)) rfl (by decide) rfl (fun _ => by kernel_rfl) (by kernel_rfl) (by kernel_rfl) (by kernel_rfl) (fun _ _ _ h => h) K ?_
      simp only [Act.put, List.setIfInBounds_toArray, List.set_cons_zero, List.set_cons_succ]
      refine callMC (i := 3) (some 15) rfl (by kernel_rfl) rfl rfl (fun _ => by kernel_rfl) (bload_any sh 64 cq (Nat.le_refl _) (fun j => z (64 * i + j)) (fun j hj => hz _ (by omega)) _ ((hh2 _ _ hs).below K.below (Nat.le_refl _))) ?_
      rintro e w2 ⟨rfl, l⟩
      replace K := K.call l
      clear l
      refine ⟨_, rfl, K, ?_⟩
      simp only [Act.put, List.setIfInBounds_toArray, List.set_cons_zero, List.set_cons_succ]
      refine callMC (i := 5) (some 17) rfl (by kernel_rfl) rfl rfl (fun _ => by kernel_rfl) (bpress_any (tH h0 n f (c + i)) (tH_in h0 n f hh _) (padz 64 (fun j => z (64 * i + j))) ((64 * (c + i) + 64 : Nat) : Int) false _ (hg.below K.below hg.size)) ?_
      rintro e w3 ⟨rfl, l⟩
      replace K := K.call l
      clear l
      refine ⟨_, rfl, K, ?_⟩
      simp only [Act.put, List.setIfInBounds_toArray, List.set_cons_zero, List.set_cons_succ]
      rw [HP.out]
      refine storesC (S2 := fun _ => True) none rfl .u32 8 (tH h0 n f (c + i + 1)) (w.heap.size) 38 _ _ (by kernel_rfl) rfl rfl rfl rfl rfl (bst_there (K.get _ _ _ _ List.mem_cons_self)) (bst_info' _) (by kernel_rfl) ?_
      simp only [Act.put]
      refine wpAnyH_done (by kernel_rfl) ?_ _
      replace K := K.set [] (w.heap.size) .u32 8 (tH h0 n f (c + i)) (tH h0 n f (c + i + 1)) List.mem_cons_self (fun _ hp => by cases hp) (fun _ hp => by cases hp) (Nat.le_refl _)
      generalize w3.setCells (w.heap.size) 0 (row .u32 8 (tH h0 n f (c + i + 1))) = w4 at K ⊢
      clear HP hh1 hh2
      go_upto_region 4 with fail
      refine wp_region_list ?_
      refine pureL (.slice sq L cq) rfl (fun _ => by kernel_rfl) ?_
      simp only [Act.put, List.setIfInBounds_toArray, List.set_cons_zero, List.set_cons_succ]
      refine pureL (.slice sl (L - 64) (cq - 64)) rfl (fun w => cutOp _ _ _ _ _ _ rfl rfl rfl (hl1 w)) ?_
      simp only [Act.put, List.setIfInBounds_toArray, List.set_cons_zero, List.set_cons_succ]
      refine pureL (.slice sl (L - 64) (cq - 64)) rfl (fun _ => by kernel_rfl) ?_
      simp only [Act.put, List.setIfInBounds_toArray, List.set_cons_zero, List.set_cons_succ]
      have HS := show Hid _ from (And.intro (show Src w sl (L - 64) (fun j => z (64 * (i + 1) + j)) from (hl2 _ _ hs).congr (fun j hj => by show z (64 * i + (64 + j)) = _; congr 1; omega)) (show Kr w (w.heap.size + 1 + 1) [(w.heap.size, .u32, 8, tH h0 n f (c + (i + 1)))] [(w.heap.size + 1, 8)] w4 from K))
      clear K hs hl1 hl2
      show Exit.inBlock _ _ _ _ _
      go_wp2
      go_roundw
      case rel => first | exact ⟨i + 1, L - 64, sl, cq - 64, by omega, by omega, by omega, by congr 1, rfl, HS.out⟩ | ((repeat apply Exists.intro); refine ⟨⟨i + 1, L - 64, sl, cq - 64, by omega, by omega, by omega, by congr 1, rfl, HS.out⟩, rfl⟩)
      case measure => simp [slen]; omega
    · have g1 : (L : Int) ≤ 64 := by omega
      have HP := show Hid _ from (show bpr (tH h0 n f (c + i)) (padz L (fun j => z (64 * i + j))) ((64 * (c + i) + L : Nat) : Int) true = tH h0 n f (nbt n) from by
        have e0 : nbt n = c + i + 1 := by
          unfold nbt
          split
          · omega
          · omega
        have e1 : min (64 * (c + i) + 64) n = 64 * (c + i) + L := by omega
        have e2 : decide (c + i + 1 = c + i + 1) = true := decide_eq_true rfl
        rw [e0]
        conv => rhs; unfold tH; rw [e1, e0, e2]
        refine bpr_congr _ _ _ _ _ (fun j hj => ?_)
        have e3 := hf (64 * i + j)
        rw [show 64 * c + (64 * i + j) = 64 * (c + i) + j by omega] at e3
        rw [e3]
        unfold padz
        by_cases e : j < L
        · rw [if_pos e, if_pos (by omega)]
        · rw [if_neg e, if_neg (by omega)])
      go_upto_region 5 with fail
      refine wp_region_C (S := fun w' => Kr w (w.heap.size + 1 + 1) [(w.heap.size, .u32, 8, tH h0 n f (c + i))] [(w.heap.size + 1, 8)] w') 9 (by kernel_rfl) K.drew ?_
      clear K
      intro K
      refine rowC (i := 0) (some 20) rfl .u32 8 (tH h0 n f (c + i)) (w.heap.size) 0 38 _ _ rfl rfl (by kernel_rfl) rfl rfl rfl (by kernel_rfl) (by kernel_rfl) (by kernel_rfl) (by kernel_rfl) (fun _ _ _ h => h) Tryd.underlying38 rfl (bst_info _) K (fun _ h => (h.get _ _ _ _ List.mem_cons_self).range) ?_
      simp only [Act.put, List.setIfInBounds_toArray, List.set_cons_zero, List.set_cons_succ]
      refine pureC (i := 1) (some 21) rfl (.slice sq L cq) rfl (by decide) rfl (fun _ => by kernel_rfl) (by kernel_rfl) (by kernel_rfl) (by kernel_rfl) (fun _ _ _ h => h) K ?_
      simp only [Act.put, List.setIfInBounds_toArray, List.set_cons_zero, List.set_cons_succ]
      refine pureC (i := 3) (some 23) rfl (.int .u64 ((64 * (c + i) : Nat) : Int)) rfl (by decide) rfl (fun _ => by kernel_rfl) (by kernel_rfl) (by kernel_rfl) (by kernel_rfl) (fun _ _ _ h => h) K ?_
      simp only [Act.put, List.setIfInBounds_toArray, List.set_cons_zero, List.set_cons_succ]
      refine pureC (i := 4) (some 24) rfl (.slice sq L cq) rfl (by decide) rfl (fun _ => by kernel_rfl) (by kernel_rfl) (by kernel_rfl) (by kernel_rfl) (fun _ _ _ h => h) K ?_
      simp only [Act.put, List.setIfInBounds_toArray, List.set_cons_zero, List.set_cons_succ]
      refine pureC (i := 5) (some 25) rfl (.int .i64 (L : Int)) rfl (by decide) rfl (fun w => lenS _ 22 5 sq L cq rfl Tryd.underlying22 rfl w) (by kernel_rfl) (by kernel_rfl) (by kernel_rfl) (fun _ _ _ h => h) K ?_
      simp only [Act.put, List.setIfInBounds_toArray, List.set_cons_zero, List.set_cons_succ]
      refine pureC (i := 6) (some 26) rfl (.int .u64 (L : Int)) rfl (by decide) rfl (fun w => convI .i64 .u64 _ _ _ _ _ rfl (by kernel_rfl) Tryd.underlying45 (by kernel_rfl) rfl (by rw [IntKind.wrap_u64]; omega) w) (by kernel_rfl) (by kernel_rfl) (by kernel_rfl) (fun _ _ _ h => h) K ?_
      simp only [Act.put, List.setIfInBounds_toArray, List.set_cons_zero, List.set_cons_succ]
      refine pureC (i := 7) (some 27) rfl (.int .u64 ((64 * (c + i) + L : Nat) : Int)) rfl (by decide) rfl (fun w => addI .u64 _ _ _ _ _ _ _ rfl rfl rfl (by rw [IntKind.wrap_u64]; omega) w) (by kernel_rfl) (by kernel_rfl) (by kernel_rfl) (fun _ _ _ h => h) K ?_
      simp only [Act.put, List.setIfInBounds_toArray, List.set_cons_zero, List.set_cons_succ]
      refine callMC (i := 2) (some 22) rfl (by kernel_rfl) rfl rfl (fun _ => by kernel_rfl) (bload_any sq L cq (by omega) (fun j => z (64 * i + j)) (fun j hj => hz _ (by omega)) _ (hs.below K.below (Nat.le_refl _))) ?_
      rintro e w2 ⟨rfl, l⟩
      replace K := K.call l
      clear l
      refine ⟨_, rfl, K, ?_⟩
      simp only [Act.put, List.setIfInBounds_toArray, List.set_cons_zero, List.set_cons_succ]
      refine callMC (i := 8) (some 28) rfl (by kernel_rfl) rfl rfl (fun _ => by kernel_rfl) (bpress_any (tH h0 n f (c + i)) (tH_in h0 n f hh _) (padz L (fun j => z (64 * i + j))) ((64 * (c + i) + L : Nat) : Int) true _ (hg.below K.below hg.size)) ?_
      rintro e w3 ⟨rfl, l⟩
      replace K := K.call l
      clear l
      refine ⟨_, rfl, K, ?_⟩
      simp only [Act.put, List.setIfInBounds_toArray, List.set_cons_zero, List.set_cons_succ]
      rw [HP.out]
      have hz' := (K.room _ List.mem_cons_self).1
      refine storesC (S2 := fun _ => True) none rfl .u32 8 (tH h0 n f (nbt n)) (w.heap.size + 1) 38 _ _ (by kernel_rfl) rfl rfl rfl rfl rfl (room_of hz') (bst_info' _) (by kernel_rfl) ?_
      simp only [Act.put]
      refine wpAnyH_done (by kernel_rfl) ?_ _
      have hB := (K.fill _ _ List.mem_cons_self (row .u32 8 (tH h0 n f (nbt n)))).below
      clear K HP hs hp
      generalize hGe : tH h0 n f (nbt n) = G at *
      go_wp2
      exact bodyPost_ret (v := (.agg (row .u32 8 (G)).toArray)) (results_row Tryd.results23 rfl (Has.all hz' .u32 G).range Tryd.underlying38 rfl (bst_info G)) rfl ⟨by first | rfl | rw [hGe] | (rw [← hGe]; done) | (rw [← hGe, Nat.zero_add]; done) | (rw [← hGe, Nat.add_zero]; done), hB⟩

set_option maxRecDepth 10000 in
set_option maxHeartbeats 8000000 in
theorem brun_any (h0 : Nat → Int) (hh : In V 8 h0) (fp : Option Addr) (fl fc : Nat) (hfl : fl = 0 ∨ fl = 64) (hfc : fl ≤ fc) (y : Nat → Int) (hy : In 256 fl y) (sp : Option Addr) (len cap : Nat) (hlen : len ≤ 140737488355072) (hcap : len ≤ cap) (z : Nat → Int) (hz : In 256 len z) (w : World) (hg : BGlob w) (hf : Src w fp fl y) (hs : Src w sp len z) :
    Calls Tryd.prog 16 #[(.agg (row .u32 8 (h0)).toArray), .slice fp fl fc, .slice sp len cap] w fun e w' => e = .returned (.agg (row .u32 8 (tH h0 (fl + len) (tx2 fl y len z) (nbt (fl + len)))).toArray) ∧ Below w.heap.size w w' := by
  have K := Kr.init w
  replace K := K.box .u32 8 h0 38 (w.heap.size) rfl
  replace K := K.make 8 #[.int .u32 0, .int .u32 0, .int .u32 0, .int .u32 0, .int .u32 0, .int .u32 0, .int .u32 0, .int .u32 0] 38 (w.heap.size + 1) (by simp) (bst_zero _ _ _ (by simp)).there
  go_enter Tryd.func16, Tryd.ntmps16
  go_upto_region 1 with fail
  generalize ((w.alloc (.cells (row .u32 8 h0).toArray 38)).alloc (.cells #[.int .u32 0, .int .u32 0, .int .u32 0, .int .u32 0, .int .u32 0, .int .u32 0, .int .u32 0, .int .u32 0] 38)) = w0 at K ⊢
  rcases hfl with rfl | rfl
  · go_upto_region 2 with fail
    refine wp_region_list ?_
    refine rowKL .u32 8 (h0) (w.heap.size) 0 38 _ _ rfl rfl rfl Tryd.underlying38 rfl (bst_info _) ((K.get _ _ _ _ List.mem_cons_self).range) ?_
    simp only [Act.put, List.setIfInBounds_toArray, List.set_cons_zero, List.set_cons_succ]
    refine pureL (.slice sp len cap) rfl (fun _ => by kernel_rfl) ?_
    simp only [Act.put, List.setIfInBounds_toArray, List.set_cons_zero, List.set_cons_succ]
    refine callL rfl (fun _ => by kernel_rfl) (bfinish_any h0 hh (0 + len) (tx2 0 y len z) 0 sp len cap (by omega) (by omega) (.inl rfl) (by omega) hcap z hz (fun j => by unfold tx2; rw [if_neg (Nat.not_lt_zero _), Nat.sub_zero, Nat.mul_zero, Nat.zero_add]) _ (hg.below K.below hg.size) (hs.below K.below (Nat.le_refl _))) ?_
    rintro e w1 ⟨rfl, l⟩
    replace K := K.call l
    clear l
    refine ⟨_, rfl, ?_⟩
    simp only [Act.put, List.setIfInBounds_toArray, List.set_cons_zero, List.set_cons_succ]
    have hz' := (K.room _ List.mem_cons_self).1
    refine storesL .u32 8 (tH h0 (0 + len) (tx2 0 y len z) (nbt (0 + len))) (w.heap.size + 1) 38 _ _ rfl rfl rfl rfl (room_of hz') (bst_info' _) ?_
    simp only [Act.put]
    have hB := (K.fill _ _ List.mem_cons_self (row .u32 8 (tH h0 (0 + len) (tx2 0 y len z) (nbt (0 + len))))).below
    clear K
    generalize hGe : (tH h0 (0 + len) (tx2 0 y len z) (nbt (0 + len))) = G at *
    show Exit.then _ _ _ _ _
    go_wp2
    exact bodyPost_ret (v := (.agg (row .u32 8 (G)).toArray)) (results_row Tryd.results16 rfl (Has.all hz' .u32 G).range Tryd.underlying38 rfl (bst_info G)) rfl ⟨by first | rfl | rw [hGe] | (rw [← hGe]; done) | (rw [← hGe, Nat.zero_add]; done) | (rw [← hGe, Nat.add_zero]; done), hB⟩
  · by_cases hl0 : len = 0
    · subst hl0
      go_upto_region 4 with fail
      refine wp_region_list ?_
      refine rowKL .u32 8 (h0) (w.heap.size) 0 38 _ _ rfl rfl rfl Tryd.underlying38 rfl (bst_info _) ((K.get _ _ _ _ List.mem_cons_self).range) ?_
      simp only [Act.put, List.setIfInBounds_toArray, List.set_cons_zero, List.set_cons_succ]
      refine pureL (.slice fp 64 fc) rfl (fun _ => by kernel_rfl) ?_
      simp only [Act.put, List.setIfInBounds_toArray, List.set_cons_zero, List.set_cons_succ]
      refine callL rfl (fun _ => by kernel_rfl) (bfinish_any h0 hh (64 + 0) (tx2 64 y 0 z) 0 fp 64 fc (by omega) (by omega) (.inl rfl) (by omega) hfc y hy (tx2_none y z) _ (hg.below K.below hg.size) (hf.below K.below (Nat.le_refl _))) ?_
      rintro e w1 ⟨rfl, l⟩
      replace K := K.call l
      clear l
      refine ⟨_, rfl, ?_⟩
      simp only [Act.put, List.setIfInBounds_toArray, List.set_cons_zero, List.set_cons_succ]
      have hz' := (K.room _ List.mem_cons_self).1
      refine storesL .u32 8 (tH h0 (64 + 0) (tx2 64 y 0 z) (nbt (64 + 0))) (w.heap.size + 1) 38 _ _ rfl rfl rfl rfl (room_of hz') (bst_info' _) ?_
      simp only [Act.put]
      have hB := (K.fill _ _ List.mem_cons_self (row .u32 8 (tH h0 (64 + 0) (tx2 64 y 0 z) (nbt (64 + 0))))).below
      clear K
      generalize hGe : (tH h0 (64 + 0) (tx2 64 y 0 z) (nbt (64 + 0))) = G at *
      show Exit.then _ _ _ _ _
      go_wp2
      exact bodyPost_ret (v := (.agg (row .u32 8 (G)).toArray)) (results_row Tryd.results16 rfl (Has.all hz' .u32 G).range Tryd.underlying38 rfl (bst_info G)) rfl ⟨by first | rfl | rw [hGe] | (rw [← hGe]; done) | (rw [← hGe, Nat.zero_add]; done) | (rw [← hGe, Nat.add_zero]; done), hB⟩
    · have g1 : (len : Int) ≠ 0 := by omega
      have HP := show Hid _ from (show bpr h0 (padz 64 y) ((64 : Nat) : Int) false = tH h0 (64 + len) (tx2 64 y len z) 1 from by
        have e1 : min (64 * 0 + 64) (64 + len) = 64 := by omega
        have e2 : decide (0 + 1 = nbt (64 + len)) = false := decide_eq_false (by unfold nbt; rw [if_neg (by omega)]; omega)
        conv => rhs; unfold tH; rw [e1, e2]
        refine bpr_congr _ _ _ _ _ (fun j hj => ?_)
        unfold padz tx2
        rw [if_pos hj, if_pos (show 64 * 0 + j < 64 by omega), Nat.mul_zero, Nat.zero_add])
      go_upto_region 5 with fail
      refine wp_region_C (S := fun w' => Kr w (w.heap.size + 1 + 1) [(w.heap.size, .u32, 8, h0)] [(w.heap.size + 1, 8)] w') 6 (by kernel_rfl) K.drew ?_
      clear K
      intro K
      refine rowC (i := 0) (some 19) rfl .u32 8 (h0) (w.heap.size) 0 38 _ _ rfl rfl (by kernel_rfl) rfl rfl rfl (by kernel_rfl) (by kernel_rfl) (by kernel_rfl) (by kernel_rfl) (fun _ _ _ h => h) Tryd.underlying38 rfl (bst_info _) K (fun _ h => (h.get _ _ _ _ List.mem_cons_self).range) ?_
      simp only [Act.put, List.setIfInBounds_toArray, List.set_cons_zero, List.set_cons_succ]
      refine pureC (i := 1) (some 20) rfl (.slice fp 64 fc) rfl (by decide) rfl (fun _ => by kernel_rfl) (by kernel_rfl) (by kernel_rfl) (by kernel_rfl) (fun _ _ _ h => h) K ?_
      simp only [Act.put, List.setIfInBounds_toArray, List.set_cons_zero, List.set_cons_succ]
      refine pureC (i := 4) (some 23) rfl (.slice sp len cap) rfl (by decide) rfl (fun _ => by kernel_rfl) (by kernel_rfl) (by kernel_rfl) (by kernel_rfl) (fun _ _ _ h => h) K ?_
      simp only [Act.put, List.setIfInBounds_toArray, List.set_cons_zero, List.set_cons_succ]
      refine callMC (i := 2) (some 21) rfl (by kernel_rfl) rfl rfl (fun _ => by kernel_rfl) (bload_any fp 64 fc (Nat.le_refl _) y hy _ (hf.below K.below (Nat.le_refl _))) ?_
      rintro e w2 ⟨rfl, l⟩
      replace K := K.call l
      clear l
      refine ⟨_, rfl, K, ?_⟩
      simp only [Act.put, List.setIfInBounds_toArray, List.set_cons_zero, List.set_cons_succ]
      refine callMC (i := 3) (some 22) rfl (by kernel_rfl) rfl rfl (fun _ => by kernel_rfl) (bpress_any h0 hh (padz 64 y) ((64 : Nat) : Int) false _ (hg.below K.below hg.size)) ?_
      rintro e w3 ⟨rfl, l⟩
      replace K := K.call l
      clear l
      refine ⟨_, rfl, K, ?_⟩
      simp only [Act.put, List.setIfInBounds_toArray, List.set_cons_zero, List.set_cons_succ]
      rw [HP.out]
      refine callMC (i := 5) (some 24) rfl (by kernel_rfl) rfl rfl (fun _ => by kernel_rfl) (bfinish_any h0 hh (64 + len) (tx2 64 y len z) 1 sp len cap (by omega) (by omega) (.inr (by omega)) (by omega) hcap z hz (fun j => by unfold tx2; rw [if_neg (show ¬ 64 * 1 + j < 64 by omega), show 64 * 1 + j - 64 = j by omega]) _ (hg.below K.below hg.size) (hs.below K.below (Nat.le_refl _))) ?_
      rintro e w4 ⟨rfl, l⟩
      replace K := K.call l
      clear l
      refine ⟨_, rfl, K, ?_⟩
      simp only [Act.put, List.setIfInBounds_toArray, List.set_cons_zero, List.set_cons_succ]
      have hz' := (K.room _ List.mem_cons_self).1
      refine storesC (S2 := fun _ => True) none rfl .u32 8 (tH h0 (64 + len) (tx2 64 y len z) (nbt (64 + len))) (w.heap.size + 1) 38 _ _ (by kernel_rfl) rfl rfl rfl rfl rfl (room_of hz') (bst_info' _) (by kernel_rfl) ?_
      simp only [Act.put]
      refine wpAnyH_done (by kernel_rfl) ?_ _
      have hB := (K.fill _ _ List.mem_cons_self (row .u32 8 (tH h0 (64 + len) (tx2 64 y len z) (nbt (64 + len))))).below
      clear K HP hs
      generalize hGe : (tH h0 (64 + len) (tx2 64 y len z) (nbt (64 + len))) = G at *
      go_wp2
      exact bodyPost_ret (v := (.agg (row .u32 8 (G)).toArray)) (results_row Tryd.results16 rfl (Has.all hz' .u32 G).range Tryd.underlying38 rfl (bst_info G)) rfl ⟨by first | rfl | rw [hGe] | (rw [← hGe]; done) | (rw [← hGe, Nat.zero_add]; done) | (rw [← hGe, Nat.add_zero]; done), hB⟩

set_option maxRecDepth 10000 in
set_option maxHeartbeats 8000000 in
theorem bbehind_any (fp : Option Addr) (fl fc : Nat) (hfl : fl = 0 ∨ fl = 64) (hfc : fl ≤ fc) (y : Nat → Int) (hy : In 256 fl y) (sp : Option Addr) (len cap : Nat) (hlen : len ≤ 140737488355072) (hcap : len ≤ cap) (z : Nat → Int) (hz : In 256 len z) (w : World) (hg : BGlob w) (hf : Src w fp fl y) (hs : Src w sp len z) :
    Calls Tryd.prog 21 #[.slice fp fl fc, .slice sp len cap] w fun e w' => e = .returned (.agg (row .u8 32 (bhash (fl + len) (app y fl z))).toArray) ∧ Below w.heap.size w w' := by
  have HE := show Hid _ from bhash_tx2 fl y len z
  have K := Kr.init w
  replace K := K.make 32 #[.int .u8 0, .int .u8 0, .int .u8 0, .int .u8 0, .int .u8 0, .int .u8 0, .int .u8 0, .int .u8 0, .int .u8 0, .int .u8 0, .int .u8 0, .int .u8 0, .int .u8 0, .int .u8 0, .int .u8 0, .int .u8 0, .int .u8 0, .int .u8 0, .int .u8 0, .int .u8 0, .int .u8 0, .int .u8 0, .int .u8 0, .int .u8 0, .int .u8 0, .int .u8 0, .int .u8 0, .int .u8 0, .int .u8 0, .int .u8 0, .int .u8 0, .int .u8 0] 29 (w.heap.size) rfl (key_zero _ _ _ rfl).there
  go_enter Tryd.func21, Tryd.ntmps21
  go_upto_region 1 with fail
  generalize (w.alloc (.cells #[.int .u8 0, .int .u8 0, .int .u8 0, .int .u8 0, .int .u8 0, .int .u8 0, .int .u8 0, .int .u8 0, .int .u8 0, .int .u8 0, .int .u8 0, .int .u8 0, .int .u8 0, .int .u8 0, .int .u8 0, .int .u8 0, .int .u8 0, .int .u8 0, .int .u8 0, .int .u8 0, .int .u8 0, .int .u8 0, .int .u8 0, .int .u8 0, .int .u8 0, .int .u8 0, .int .u8 0, .int .u8 0, .int .u8 0, .int .u8 0, .int .u8 0, .int .u8 0] 29)) = w0 at K ⊢
  refine wp_region_list ?_
  refine callL rfl (fun _ => by kernel_rfl) (bbegin_any 0 32 (by decide) (by decide) _ (hg.below K.below hg.size)) ?_
  rintro e w1 ⟨rfl, l⟩
  replace K := K.call l
  clear l
  refine ⟨_, rfl, ?_⟩
  simp only [Act.put, List.setIfInBounds_toArray, List.set_cons_zero, List.set_cons_succ]
  refine pureL (.slice fp fl fc) rfl (fun _ => by kernel_rfl) ?_
  simp only [Act.put, List.setIfInBounds_toArray, List.set_cons_zero, List.set_cons_succ]
  refine pureL (.slice sp len cap) rfl (fun _ => by kernel_rfl) ?_
  simp only [Act.put, List.setIfInBounds_toArray, List.set_cons_zero, List.set_cons_succ]
  refine callL rfl (fun _ => by kernel_rfl) (brun_any (bh0 0 32) (bh0_in 0 32 (by decide) (by decide)) fp fl fc hfl hfc y hy sp len cap hlen hcap z hz _ (hg.below K.below hg.size) (hf.below K.below (Nat.le_refl _)) (hs.below K.below (Nat.le_refl _))) ?_
  rintro e w2 ⟨rfl, l⟩
  replace K := K.call l
  clear l
  refine ⟨_, rfl, ?_⟩
  simp only [Act.put, List.setIfInBounds_toArray, List.set_cons_zero, List.set_cons_succ]
  refine callL rfl (fun _ => by kernel_rfl) (bbytes_any (tH (bh0 0 32) (fl + len) (tx2 fl y len z) (nbt (fl + len))) _) ?_
  rintro e w3 ⟨rfl, l⟩
  replace K := K.call l
  clear l
  refine ⟨_, rfl, ?_⟩
  simp only [Act.put, List.setIfInBounds_toArray, List.set_cons_zero, List.set_cons_succ]
  rw [← HE.out]
  have hz' := (K.room _ List.mem_cons_self).1
  refine storesL .u8 32 (bhash (fl + len) (app y fl z)) (w.heap.size) 29 _ _ rfl rfl rfl rfl (room_of hz') (key_info' _) ?_
  simp only [Act.put]
  have hB := (K.fill _ _ List.mem_cons_self (row .u8 32 (bhash (fl + len) (app y fl z)))).below
  clear K HE
  generalize hGe : bhash (fl + len) (app y fl z) = G at *
  show Exit.then _ _ _ _ _
  go_wp2
  exact bodyPost_ret (v := (.agg (row .u8 32 (G)).toArray)) (results_row Tryd.results21 rfl (Has.all hz' .u8 G).range Tryd.underlying29 rfl (key_info G)) rfl ⟨by first | rfl | rw [hGe] | (rw [← hGe]; done) | (rw [← hGe, Nat.zero_add]; done) | (rw [← hGe, Nat.add_zero]; done), hB⟩

set_option maxRecDepth 10000 in
set_option maxHeartbeats 8000000 in
theorem bpad_any (kp : Option Addr) (kl kc : Nat) (hkl : kl ≤ 64) (key : Nat → Int) (c : Int) (w : World) (hk : Src w kp kl key) :
    Calls Tryd.prog 22 #[.slice kp kl kc, .int .u8 c] w fun e w' => ∃ g, e = .returned (.slice (some ⟨g, 0, none⟩) 64 64) ∧ Has w' g .u8 64 (bxx c (padz kl key)) ∧ (w.heap.size ≤ g ∧ g < w'.heap.size) ∧ Below w.heap.size w w' := by
  go_enter Tryd.func22, Tryd.ntmps22
  go_upto_region 1 with fail
  have K := (Kr.init w).box .u8 64 (fun _ => 0) 5 (w.heap.size) rfl
  refine wp_region_list ?_
  refine actL (w' := w.alloc (.cells (row .u8 64 (fun _ => 0)).toArray 5)) (.slice (some ⟨w.heap.size, 0, none⟩) 64 64) rfl (makeOp 22 _ _ _ _ _ rfl rfl rfl (made8 64 (by decide) w)) ?_
  simp only [Act.put, List.setIfInBounds_toArray, List.set_cons_zero, List.set_cons_succ]
  refine pureL (.slice (some ⟨w.heap.size, 0, none⟩) 64 64) rfl (fun _ => by kernel_rfl) ?_
  simp only [Act.put, List.setIfInBounds_toArray, List.set_cons_zero, List.set_cons_succ]
  show Exit.then _ _ _ _ _
  go_upto_region 2 with fail
  generalize w.alloc (.cells (row .u8 64 (fun _ => 0)).toArray 5) = w0 at K ⊢
  have HR := K.get _ _ _ _ List.mem_cons_self
  replace K := K.loose [] (w.heap.size) .u8 64 (fun _ => 0) List.mem_cons_self (fun _ hp => by cases hp) (fun _ hp => by cases hp) (Nat.le_refl _)
  refine wp_region_list ?_
  refine pureL (.slice (some ⟨w.heap.size, 0, none⟩) 64 64) rfl (fun _ => by kernel_rfl) ?_
  simp only [Act.put, List.setIfInBounds_toArray, List.set_cons_zero, List.set_cons_succ]
  refine pureL (.slice kp kl kc) rfl (fun _ => by kernel_rfl) ?_
  simp only [Act.put, List.setIfInBounds_toArray, List.set_cons_zero, List.set_cons_succ]
  refine actL (.int .i64 (kl : Int)) rfl (run_copy_src _ _ 22 22 5 rfl Tryd.underlying22 (by kernel_rfl) (w.heap.size) 64 64 kl kc 64 kp key rfl rfl hkl hkl HR.there (hk.below K.below (Nat.le_refl _))) ?_
  simp only [Act.put, List.setIfInBounds_toArray, List.set_cons_zero, List.set_cons_succ]
  replace K := K.fill (w.heap.size) 64 List.mem_cons_self (row .u8 kl key)
  replace HR := (HR.part 0 kl (by omega) key).congr (g := padz kl key) (fun j hj => by
    unfold over padz
    by_cases e : j < kl
    · rw [if_pos (by omega), if_pos e, Nat.sub_zero]
    · rw [if_neg (by omega), if_neg e])
  replace K := K.settle [] (w.heap.size) .u8 64 (padz kl key) List.mem_cons_self (fun _ hq => by cases hq) (fun _ hq => by cases hq) HR
  generalize w0.setCells (w.heap.size) 0 (row .u8 kl key) = w1 at K ⊢
  clear HR w0 hk hkl
  show Exit.then _ _ _ _ _
  generalize hpe : padz kl key = p at K
  go_wp2
  go_loopw [13] (fun i w' => ∃ (n : Nat) (f : Nat → Int), n ≤ 64 ∧ i = .int .i64 n ∧ Kr w (w.heap.size + 1) [(w.heap.size, .u8, 64, f)] [] w' ∧ (∀ j, j < n → f j = bxx c p j) ∧ ∀ j, n ≤ j → f j = p j) (fun i _ => 64 - (intOf i).toNat)
  case atStart => exact ⟨0, p, by omega, rfl, K, fun j hj => by omega, fun _ _ => rfl⟩
  case round =>
    clear K
    obtain ⟨n, f, hn, rfl, K, hd, hk⟩ := hrel
    have g1 : (0 : Int) ≤ (n : Int) := by omega
    by_cases hlt : n < 64
    · have g2 : (n : Int) < 64 := by omega
      have HX : bits .xor .u8 (f n) c = bxx c p n := by rw [hk n (Nat.le_refl _)]; rfl
      go_upto_region 6 with fail
      refine wp_region_list ?_
      refine pureL (.slice (some ⟨w.heap.size, 0, none⟩) 64 64) rfl (fun _ => by kernel_rfl) ?_
      simp only [Act.put, List.setIfInBounds_toArray, List.set_cons_zero, List.set_cons_succ]
      refine pureL (.int .i64 (n : Int)) rfl (fun _ => by kernel_rfl) ?_
      simp only [Act.put, List.setIfInBounds_toArray, List.set_cons_zero, List.set_cons_succ]
      refine pureL (.pointer (some ⟨w.heap.size, n, none⟩)) rfl (fun w' => idxO (w.heap.size) 64 64 n hlt w' _ _ rfl rfl rfl) ?_
      simp only [Act.put, List.setIfInBounds_toArray, List.set_cons_zero, List.set_cons_succ]
      refine cellL .u8 (.int .u8 (f n)) (w.heap.size) n 5 _ rfl rfl rfl Tryd.underlying5 ((K.get _ _ _ _ List.mem_cons_self).cell n hlt) ?_
      simp only [Act.put, List.setIfInBounds_toArray, List.set_cons_zero, List.set_cons_succ]
      refine pureL (.int .u8 c) rfl (fun _ => by kernel_rfl) ?_
      simp only [Act.put, List.setIfInBounds_toArray, List.set_cons_zero, List.set_cons_succ]
      refine pureL (.int .u8 (bxx c p n)) rfl (fun w => xorI .u8 _ _ _ _ _ _ _ rfl rfl rfl HX w) ?_
      simp only [Act.put, List.setIfInBounds_toArray, List.set_cons_zero, List.set_cons_succ]
      refine pureL (.pointer (some ⟨w.heap.size, n, none⟩)) rfl (fun w' => idxO (w.heap.size) 64 64 n hlt w' _ _ rfl rfl rfl) ?_
      simp only [Act.put, List.setIfInBounds_toArray, List.set_cons_zero, List.set_cons_succ]
      refine storeL .u8 (bxx c p n) (w.heap.size) n 5 _ _ rfl rfl rfl rfl (by rw [(K.get _ _ _ _ List.mem_cons_self).cell n hlt]; rfl) ((K.get _ _ _ _ List.mem_cons_self).free n hlt) (by kernel_rfl) ?_
      simp only [Act.put]
      replace K := K.setCell [] (w.heap.size) .u8 64 f n hlt (bxx c p n) List.mem_cons_self (fun _ hp => by cases hp) (fun _ hp => by cases hp) (Nat.le_refl _)
      have HS := show Hid _ from (And.intro K (And.intro (show ∀ j, j < n + 1 → upd f n (bxx c p n) j = bxx c p j from fun j hj => by
        by_cases e : j = n
        · subst e; rw [upd_same]
        · rw [upd_other _ _ _ _ e]; exact hd j (by omega)) (show ∀ j, n + 1 ≤ j → upd f n (bxx c p n) j = p j from fun j hj => by rw [upd_other _ _ _ _ (show j ≠ n by omega)]; exact hk j (by omega))))
      clear K hd hk HX
      generalize wr.setCell ⟨w.heap.size, n, none⟩ (.int .u8 (bxx c p n)) = w5 at HS ⊢
      generalize upd f n (bxx c p n) = f' at HS
      show Exit.inBlock _ _ _ _ _
      go_wp2
      go_roundw
      case rel => first | exact ⟨n + 1, f', by omega, by go_num, HS.out⟩ | ((repeat apply Exists.intro); refine ⟨⟨n + 1, f', by omega, by go_num, HS.out⟩, rfl⟩)
      case measure => simp [intOf]; omega
    · obtain rfl : n = 64 := by omega
      have HR := (K.get _ _ _ _ List.mem_cons_self).congr (g := bxx c p) (fun j hj => hd j hj)
      have hB := K.below
      have hz := K.size
      clear K hd hk hlt hn g1
      go_wp2
      go_ret
      exact ⟨w.heap.size, rfl, by rw [hpe]; exact HR, ⟨Nat.le_refl _, by omega⟩, hB⟩
end Go.Proofs.YtmchfdfmcobenaaDoor
