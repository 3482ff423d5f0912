/- Texts of LawKeysStay Bd Hw Bc Bf, joined. -/
import Derived.Test.YtckohmdmjhaknaaDoorP2KeysStay
import Derived.Test.YtckohmdmjhaknaaDoorP1KeysStay
import Derived.Test.YtckohmdmjhaknaaDoorProg
import Derived.BigRegion
import Derived.BigQuiet
import Derived.Laws.Externs
import Derived.Deep.Cut
set_option maxRecDepth 20000
set_option maxHeartbeats 64000000
namespace Go.Proofs.YtckohmdmjhaknaaDoor
open Go.RowKit
theorem yon_w {k : Kys} (h : KysW k) : ∀ n, KysW (yon n k)
  | 0 => h
  | n + 1 => yad_w (yon_w h n)
theorem ynK_in (k : Kys) : In 256 32 (ynK k) := by
  unfold ynK
  split
  · exact in_zero32
  · exact yof_in _
theorem tmod_nat15 (m : Int) (h : 0 ≤ m) (k : Nat) (hk : 0 < k) : ∃ N : Nat, m.tmod k = (N : Int) ∧ N < k := by
  obtain ⟨x, rfl⟩ := Int.eq_ofNat_of_zero_le h
  exact ⟨x % k, (Int.ofNat_tmod x k).symm, Nat.mod_lt _ hk⟩
theorem yad_e {k : Kys} {n : Int} (h : k.e = n) (hn : n < 65535) : (yad k).e = n + 1 := by
  rw [yad_on (by omega)]
  show k.e + 1 = _
  omega
theorem ynE_ok {k : Kys} {n : Int} (h : k.e = n) (hn : n < 65535) : ynE k = 0 := if_neg (by omega)
theorem law_KeysStay {I : Value → Kys → List (Nat × List Value) → Prop} (hK : KeysOK I) (r : Nat → Int) (hr : In 256 32 r) (z : Int) (hz : i64 z) (w0 : World) (hg : BGlob w0) :
    Calls Tryd.prog 4 #[.agg (row .u8 32 r).toArray, .int .i64 z] w0 fun e w' => e = .returned (.bool true) ∧ Below w0.heap.size w0 w' := by
  unfold i64 at hz
  have M := Mm.init w0
  go_enter Tryd.func4, Tryd.ntmps4
  go_upto_region 0 with fail
  refine wp_region_list ?_
  refine actL (w' := w0.alloc (.cells (row .u8 32 r).toArray 23)) (.pointer (some ⟨w0.heap.size, 0, none⟩)) rfl (by kernel_rfl) ?_
  simp only [aP, lI, l0, lS]
  replace M := M.box (row .u8 32 r).toArray 23 w0.heap.size rfl
  generalize w0.alloc (.cells (row .u8 32 r).toArray 23) = w1 at M ⊢
  generalize w0.heap.size = B1 at M ⊢
  replace M : Mm w0 ((B1, row .u8 32 r) :: ([] : List (Nat × List Value))) w1 := M
  refine readL (.bool false) rfl (by kernel_rfl) ?_
  simp only [aP, lI, l0, lS]
  first | show Exit.then _ _ _ _ _ | show Exit.inBlock _ _ _ _ _
  go_upto_region 1 with fail
  refine wp_region_list ?_
  refine callL rfl (fun _ => by kernel_rfl) (shown15_any hK _ (hg.below M.below hg.size)) ?_
  rintro e w2 ⟨rfl, l⟩
  replace M := M.call l
  clear l
  refine ⟨_, rfl, ?_⟩
  simp only [aP, lI, l0, lS]
  refine readL (.bool true) rfl (by kernel_rfl) ?_
  simp only [aP, lI, l0, lS]
  first | show Exit.then _ _ _ _ _ | show Exit.inBlock _ _ _ _ _
  go_upto_region 2 with fail
  refine wp_region_list ?_
  refine readL (.agg (row .u8 32 r).toArray) rfl (loadN 23 _ ⟨B1, 0, none⟩ (row .u8 32 r) rfl rfl (fun _ => by kernel_rfl) (fun _ => by rw [row32]; kernel_rfl) (M.part mS 0 _ (by rw [List.drop_zero, List.take_length]))) ?_
  simp only [aP, lI, l0, lS]
  have key := hK.new w0 _ _ r hg hr M
  refine callL rfl (fun _ => by kernel_rfl) key ?_
  clear key
  rintro e w3 ⟨v_, ba0, rfl, hIa, M', l⟩
  obtain ⟨Ra, rfl⟩ := hK.ptr _ _ _ hIa
  clear M l
  have M := M'.perm (pull0 ([(B1, row .u8 32 r)] : List (Nat × List Value)) ba0 ([] : List (Nat × List Value))).symm
  clear M'
  replace M : Mm w0 ((B1, row .u8 32 r) :: (ba0 ++ ([] : List (Nat × List Value)))) w3 := M
  refine ⟨_, rfl, ?_⟩
  simp only [aP, lI, l0, lS]
  refine readL (.pointer (some ⟨Ra, 0, none⟩)) rfl (by kernel_rfl) ?_
  simp only [aP, lI, l0, lS]
  first | show Exit.then _ _ _ _ _ | show Exit.inBlock _ _ _ _ _
  go_upto_region 3 with fail
  refine wp_region_list ?_
  refine readL (.bool true) rfl (by kernel_rfl) ?_
  simp only [aP, lI, l0, lS]
  refine readL (.bool false) rfl (by kernel_rfl) ?_
  simp only [aP, lI, l0, lS]
  refine readL (.bool false) rfl (by kernel_rfl) ?_
  simp only [aP, lI, l0, lS]
  refine readL (.pointer (some ⟨Ra, 0, none⟩)) rfl (by kernel_rfl) ?_
  simp only [aP, lI, l0, lS]
  refine readL (.bool false) rfl (by kernel_rfl) ?_
  simp only [aP, lI, l0, lS]
  refine readL (.bool false) rfl (by kernel_rfl) ?_
  simp only [aP, lI, l0, lS]
  first | show Exit.then _ _ _ _ _ | show Exit.inBlock _ _ _ _ _
  by_cases hneg : z < 0
  · go_upto_region 5 with fail
    refine wp_region_list ?_
    refine readL (.int .i64 z) rfl (by kernel_rfl) ?_
    simp only [aP, lI, l0, lS]
    refine readL (.bool true) rfl (lssI .i64 _ _ _ _ _ _ rfl rfl rfl true (decide_eq_true hneg) _) ?_
    simp only [aP, lI, l0, lS]
    first | show Exit.then _ _ _ _ _ | show Exit.inBlock _ _ _ _ _
    go_upto_region 6 with fail
    refine wp_region_list ?_
    refine readL (.int .i64 z) rfl (by kernel_rfl) ?_
    simp only [aP, lI, l0, lS]
    refine readL (.int .i64 (z + 1)) rfl (addI .i64 _ _ _ _ _ _ _ rfl rfl rfl (by rw [IntKind.wrap_i64]; omega) _) ?_
    simp only [aP, lI, l0, lS]
    refine readL (.int .i64 (-(z + 1))) rfl (negI .i64 _ _ _ _ rfl rfl (by rw [IntKind.wrap_i64]; omega) _) ?_
    simp only [aP, lI, l0, lS]
    refine readL (.int .i64 (-(z + 1))) rfl (by kernel_rfl) ?_
    simp only [aP, lI, l0, lS]
    first | show Exit.then _ _ _ _ _ | show Exit.inBlock _ _ _ _ _
    obtain ⟨N, hN, hN2⟩ := tmod_nat15 (-(z + 1)) (by omega) 20 (by decide)
    go_upto_region 7 with fail
    refine wp_region_list ?_
    refine readL (.int .i64 (-(z + 1))) rfl (by kernel_rfl) ?_
    simp only [aP, lI, l0, lS]
    refine readL (.int .i64 (N : Int)) rfl (remI .i64 _ _ _ _ _ _ _ rfl rfl rfl (by decide) hN _) ?_
    simp only [aP, lI, l0, lS]
    refine readL (.int .i64 (N : Int)) rfl (by kernel_rfl) ?_
    simp only [aP, lI, l0, lS]
    first | show Exit.then _ _ _ _ _ | show Exit.inBlock _ _ _ _ _
    go_upto_region 8 with fail
    refine wp_region_list ?_
    refine readL (.int .i64 0) rfl (by kernel_rfl) ?_
    simp only [aP, lI, l0, lS]
    first | show Exit.then _ _ _ _ _ | show Exit.inBlock _ _ _ _ _
    have HI := show Hid _ from (show I (.pointer (some ⟨Ra, 0, none⟩)) (yon 0 (ynew r)) ba0 ∧ Mm w0 ((B1, row .u8 32 r) :: (ba0 ++ ([] : List (Nat × List Value)))) w3 from ⟨hIa, M⟩)
    clear M hIa hN
    go_wp2
    go_loopw [7] (fun i w' => ∃ (q : Nat) (bs : List (Nat × List Value)), q ≤ N ∧ i = .int .i64 (q : Int) ∧ I (.pointer (some ⟨Ra, 0, none⟩)) (yon q (ynew r)) bs ∧ Mm w0 ((B1, row .u8 32 r) :: (bs ++ ([] : List (Nat × List Value)))) w') (fun i _ => N - (intOf i).toNat)
    case atStart => exact ⟨0, _, by omega, rfl, HI.out⟩
    case round =>
      clear HI
      obtain ⟨q, bs, hq, rfl, hIa, M⟩ := hrel
      have hke := yon_e (k := ynew r) rfl q (by omega)
      have hkw := yon_w (ynew_w hr) q
      by_cases hlt : q < N
      · go_upto_region 9 with fail
        refine wp_region_list ?_
        refine readL (.int .i64 (q : Int)) rfl (by kernel_rfl) ?_
        simp only [aP, lI, l0, lS]
        refine readL (.int .i64 (N : Int)) rfl (by kernel_rfl) ?_
        simp only [aP, lI, l0, lS]
        refine readL (.bool true) rfl (lssI .i64 _ _ _ _ _ _ rfl rfl rfl true (decide_eq_true (by omega)) _) ?_
        simp only [aP, lI, l0, lS]
        first | show Exit.then _ _ _ _ _ | show Exit.inBlock _ _ _ _ _
        go_upto_region 11 with fail
        refine wp_region_list ?_
        refine readL (.pointer (some ⟨Ra, 0, none⟩)) rfl (by kernel_rfl) ?_
        simp only [aP, lI, l0, lS]
        have Mp := M.perm (pull0 ([(B1, row .u8 32 r)] : List (Nat × List Value)) bs ([] : List (Nat × List Value)))
        have key := hK.adv w0 _ _ (yon q (ynew r)) bs _ hg hkw hIa Mp
        clear Mp
        rw [ynE_ok hke (by omega)] at key
        refine callL rfl (fun _ => by kernel_rfl) key ?_
        clear key
        rintro e w4 ⟨rfl, ba1, hI_, -, M', -⟩
        clear M hIa
        have hIa := hI_
        clear hI_
        have M : Mm w0 ((B1, row .u8 32 r) :: (ba1 ++ ([] : List (Nat × List Value)))) w4 := M'.perm (pull0 ([(B1, row .u8 32 r)] : List (Nat × List Value)) ba1 ([] : List (Nat × List Value))).symm
        clear M'
        refine ⟨_, rfl, ?_⟩
        simp only [aP, lI, l0, lS]
        refine readL (.bool false) rfl (neqI .i64 _ _ _ _ _ _ rfl rfl rfl false (by decide) _) ?_
        simp only [aP, lI, l0, lS]
        first | show Exit.then _ _ _ _ _ | show Exit.inBlock _ _ _ _ _
        have HS := show Hid _ from (And.intro hIa M)
        clear M hIa hke hkw
        go_wp2
        go_roundw
        case rel => exact ⟨q + 1, _, by omega, by go_num, HS.out⟩
        case measure => simp [intOf]; omega
      · obtain rfl : q = N := by omega
        go_upto_region 9 with fail
        refine wp_region_list ?_
        refine readL (.int .i64 (q : Int)) rfl (by kernel_rfl) ?_
        simp only [aP, lI, l0, lS]
        refine readL (.int .i64 (q : Int)) rfl (by kernel_rfl) ?_
        simp only [aP, lI, l0, lS]
        refine readL (.bool false) rfl (lssI .i64 _ _ _ _ _ _ rfl rfl rfl false (decide_eq_false (by omega)) _) ?_
        simp only [aP, lI, l0, lS]
        first | show Exit.then _ _ _ _ _ | show Exit.inBlock _ _ _ _ _
        generalize yon q (ynew r) = k at hIa hke hkw
        have h1 := yad_e hke (by omega)
        have h2 := yad_e h1 (by omega)
        have h3 := yad_e h2 (by omega)
        have f1 : ykK (yad k) ((q : Int) + 1) = ynK k := by rw [← hke]; exact ykK_next (by omega)
        have g1 : ykE (yad k) ((q : Int) + 1) = 0 := ykE_now h1.symm
        have f2 : ykK (yad (yad k)) ((q : Int) + 1) = ynK k := by rw [← hke]; exact (ykK_next2 (by omega)).1
        have g2 : ykE (yad (yad k)) ((q : Int) + 1) = 0 := by rw [← hke]; exact (ykK_next2 (by omega)).2
        have g3 : ykE (yad (yad (yad k))) ((q : Int) + 1) = 150 := by rw [← hke]; exact ykE_gone (by omega)
        go_upto_region 13 with fail
        refine wp_region_list ?_
        refine readL (.pointer (some ⟨Ra, 0, none⟩)) rfl (by kernel_rfl) ?_
        simp only [aP, lI, l0, lS]
        have Mp := M.perm (pull0 ([(B1, row .u8 32 r)] : List (Nat × List Value)) bs ([] : List (Nat × List Value)))
        have key := hK.nxt w0 _ _ k bs _ hg hkw hIa Mp
        clear Mp
        rw [ynE_ok hke (by omega)] at key
        refine callL rfl (fun _ => by kernel_rfl) key ?_
        clear key
        rintro e w5 ⟨rfl, l⟩
        replace M := M.call l
        clear l
        refine ⟨_, rfl, ?_⟩
        simp only [aP, lI, l0, lS]
        refine readL (.tuple #[.agg (row .u8 32 (ynK k)).toArray, .int .i64 0]) rfl (by kernel_rfl) ?_
        simp only [aP, lI, l0, lS]
        refine readL (.agg (row .u8 32 (ynK k)).toArray) rfl (by kernel_rfl) ?_
        simp only [aP, lI, l0, lS]
        refine readL (.int .i64 0) rfl (by kernel_rfl) ?_
        simp only [aP, lI, l0, lS]
        refine actL (w' := w5.alloc (.cells zu8_32 23)) (.pointer (some ⟨w5.heap.size, 0, none⟩)) rfl (by kernel_rfl) ?_
        simp only [aP, lI, l0, lS]
        replace M := M.box zu8_32 23 w5.heap.size rfl
        generalize w5.alloc (.cells zu8_32 23) = w6 at M ⊢
        generalize w5.heap.size = B6 at M ⊢
        replace M : Mm w0 ((B6, row .u8 32 (fun _ => 0)) :: (B1, row .u8 32 r) :: (bs ++ ([] : List (Nat × List Value)))) w6 := M
        refine skipOpL rfl (storeP (row .u8 32 (ynK k)) B6 0 23 _ _ rfl rfl rfl (M.thereP mS 0 32 (Nat.le_of_ble_eq_true rfl)) (by kernel_rfl) (row_one .u8 32 (ynK k))) ?_
        simp only [Act.put]
        replace M := M.setAll (row .u8 32 (ynK k)) (by first | (rw [row32, row32]; done) | (rw [row32]; rfl) | (rw [row32]; done))
        generalize w6.setCells B6 0 (row .u8 32 (ynK k)) = w7 at M  ⊢
        refine readL (.int .i64 0) rfl (by kernel_rfl) ?_
        simp only [aP, lI, l0, lS]
        first | show Exit.then _ _ _ _ _ | show Exit.inBlock _ _ _ _ _
        go_upto_region 14 with fail
        refine wp_region_list ?_
        refine readL (.pointer (some ⟨Ra, 0, none⟩)) rfl (by kernel_rfl) ?_
        simp only [aP, lI, l0, lS]
        have Mp := M.perm (pull0 ([(B6, row .u8 32 (ynK k)), (B1, row .u8 32 r)] : List (Nat × List Value)) bs ([] : List (Nat × List Value)))
        have key := hK.adv w0 _ _ k bs _ hg hkw hIa Mp
        clear Mp
        rw [ynE_ok hke (by omega)] at key
        refine callL rfl (fun _ => by kernel_rfl) key ?_
        clear key
        rintro e w8 ⟨rfl, ba1, hI_, -, M', -⟩
        clear M hIa
        have hIa := hI_
        clear hI_
        have M : Mm w0 ((B6, row .u8 32 (ynK k)) :: (B1, row .u8 32 r) :: (ba1 ++ ([] : List (Nat × List Value)))) w8 := M'.perm (pull0 ([(B6, row .u8 32 (ynK k)), (B1, row .u8 32 r)] : List (Nat × List Value)) ba1 ([] : List (Nat × List Value))).symm
        clear M'
        refine ⟨_, rfl, ?_⟩
        simp only [aP, lI, l0, lS]
        refine readL (.int .i64 0) rfl (by kernel_rfl) ?_
        simp only [aP, lI, l0, lS]
        first | show Exit.then _ _ _ _ _ | show Exit.inBlock _ _ _ _ _
        go_upto_region 15 with fail
        refine wp_region_list ?_
        refine readL (.pointer (some ⟨Ra, 0, none⟩)) rfl (by kernel_rfl) ?_
        simp only [aP, lI, l0, lS]
        refine readL (.int .i64 (q : Int)) rfl (by kernel_rfl) ?_
        simp only [aP, lI, l0, lS]
        refine readL (.int .i64 ((q : Int) + 1)) rfl (addI .i64 _ _ _ _ _ _ _ rfl rfl rfl (by rw [IntKind.wrap_i64]; omega) _) ?_
        simp only [aP, lI, l0, lS]
        have Mp := M.perm (pull0 ([(B6, row .u8 32 (ynK k)), (B1, row .u8 32 r)] : List (Nat × List Value)) ba1 ([] : List (Nat × List Value)))
        have key := hK.key w0 _ _ (yad k) ba1 _ ((q : Int) + 1) hg (yad_w hkw) (by unfold i64; omega) hIa Mp
        clear Mp
        rw [f1, g1] at key
        refine callL rfl (fun _ => by kernel_rfl) key ?_
        clear key
        rintro e w9 ⟨rfl, l⟩
        replace M := M.call l
        clear l
        refine ⟨_, rfl, ?_⟩
        simp only [aP, lI, l0, lS]
        refine readL (.tuple #[.agg (row .u8 32 (ynK k)).toArray, .int .i64 0]) rfl (by kernel_rfl) ?_
        simp only [aP, lI, l0, lS]
        refine readL (.agg (row .u8 32 (ynK k)).toArray) rfl (by kernel_rfl) ?_
        simp only [aP, lI, l0, lS]
        refine readL (.int .i64 0) rfl (by kernel_rfl) ?_
        simp only [aP, lI, l0, lS]
        refine actL (w' := w9.alloc (.cells zu8_32 23)) (.pointer (some ⟨w9.heap.size, 0, none⟩)) rfl (by kernel_rfl) ?_
        simp only [aP, lI, l0, lS]
        replace M := M.box zu8_32 23 w9.heap.size rfl
        generalize w9.alloc (.cells zu8_32 23) = w10 at M ⊢
        generalize w9.heap.size = B10 at M ⊢
        replace M : Mm w0 ((B10, row .u8 32 (fun _ => 0)) :: (B6, row .u8 32 (ynK k)) :: (B1, row .u8 32 r) :: (ba1 ++ ([] : List (Nat × List Value)))) w10 := M
        refine skipOpL rfl (storeP (row .u8 32 (ynK k)) B10 0 23 _ _ rfl rfl rfl (M.thereP mS 0 32 (Nat.le_of_ble_eq_true rfl)) (by kernel_rfl) (row_one .u8 32 (ynK k))) ?_
        simp only [Act.put]
        replace M := M.setAll (row .u8 32 (ynK k)) (by first | (rw [row32, row32]; done) | (rw [row32]; rfl) | (rw [row32]; done))
        generalize w10.setCells B10 0 (row .u8 32 (ynK k)) = w11 at M  ⊢
        refine readL (.int .i64 0) rfl (by kernel_rfl) ?_
        simp only [aP, lI, l0, lS]
        first | show Exit.then _ _ _ _ _ | show Exit.inBlock _ _ _ _ _
        go_upto_region 16 with fail
        refine wp_region_list ?_
        refine readL (.pointer (some ⟨Ra, 0, none⟩)) rfl (by kernel_rfl) ?_
        simp only [aP, lI, l0, lS]
        have Mp := M.perm (pull0 ([(B10, row .u8 32 (ynK k)), (B6, row .u8 32 (ynK k)), (B1, row .u8 32 r)] : List (Nat × List Value)) ba1 ([] : List (Nat × List Value)))
        have key := hK.adv w0 _ _ (yad k) ba1 _ hg (yad_w hkw) hIa Mp
        clear Mp
        rw [ynE_ok h1 (by omega)] at key
        refine callL rfl (fun _ => by kernel_rfl) key ?_
        clear key
        rintro e w12 ⟨rfl, ba2, hI_, -, M', -⟩
        clear M hIa
        have hIa := hI_
        clear hI_
        have M : Mm w0 ((B10, row .u8 32 (ynK k)) :: (B6, row .u8 32 (ynK k)) :: (B1, row .u8 32 r) :: (ba2 ++ ([] : List (Nat × List Value)))) w12 := M'.perm (pull0 ([(B10, row .u8 32 (ynK k)), (B6, row .u8 32 (ynK k)), (B1, row .u8 32 r)] : List (Nat × List Value)) ba2 ([] : List (Nat × List Value))).symm
        clear M'
        refine ⟨_, rfl, ?_⟩
        simp only [aP, lI, l0, lS]
        refine readL (.int .i64 0) rfl (by kernel_rfl) ?_
        simp only [aP, lI, l0, lS]
        first | show Exit.then _ _ _ _ _ | show Exit.inBlock _ _ _ _ _
        go_upto_region 17 with fail
        refine wp_region_list ?_
        refine readL (.pointer (some ⟨Ra, 0, none⟩)) rfl (by kernel_rfl) ?_
        simp only [aP, lI, l0, lS]
        refine readL (.int .i64 (q : Int)) rfl (by kernel_rfl) ?_
        simp only [aP, lI, l0, lS]
        refine readL (.int .i64 ((q : Int) + 1)) rfl (addI .i64 _ _ _ _ _ _ _ rfl rfl rfl (by rw [IntKind.wrap_i64]; omega) _) ?_
        simp only [aP, lI, l0, lS]
        have Mp := M.perm (pull0 ([(B10, row .u8 32 (ynK k)), (B6, row .u8 32 (ynK k)), (B1, row .u8 32 r)] : List (Nat × List Value)) ba2 ([] : List (Nat × List Value)))
        have key := hK.key w0 _ _ (yad (yad k)) ba2 _ ((q : Int) + 1) hg (yad_w (yad_w hkw)) (by unfold i64; omega) hIa Mp
        clear Mp
        rw [f2, g2] at key
        refine callL rfl (fun _ => by kernel_rfl) key ?_
        clear key
        rintro e w13 ⟨rfl, l⟩
        replace M := M.call l
        clear l
        refine ⟨_, rfl, ?_⟩
        simp only [aP, lI, l0, lS]
        refine readL (.tuple #[.agg (row .u8 32 (ynK k)).toArray, .int .i64 0]) rfl (by kernel_rfl) ?_
        simp only [aP, lI, l0, lS]
        refine readL (.agg (row .u8 32 (ynK k)).toArray) rfl (by kernel_rfl) ?_
        simp only [aP, lI, l0, lS]
        refine readL (.int .i64 0) rfl (by kernel_rfl) ?_
        simp only [aP, lI, l0, lS]
        refine actL (w' := w13.alloc (.cells zu8_32 23)) (.pointer (some ⟨w13.heap.size, 0, none⟩)) rfl (by kernel_rfl) ?_
        simp only [aP, lI, l0, lS]
        replace M := M.box zu8_32 23 w13.heap.size rfl
        generalize w13.alloc (.cells zu8_32 23) = w14 at M ⊢
        generalize w13.heap.size = B14 at M ⊢
        replace M : Mm w0 ((B14, row .u8 32 (fun _ => 0)) :: (B10, row .u8 32 (ynK k)) :: (B6, row .u8 32 (ynK k)) :: (B1, row .u8 32 r) :: (ba2 ++ ([] : List (Nat × List Value)))) w14 := M
        refine skipOpL rfl (storeP (row .u8 32 (ynK k)) B14 0 23 _ _ rfl rfl rfl (M.thereP mS 0 32 (Nat.le_of_ble_eq_true rfl)) (by kernel_rfl) (row_one .u8 32 (ynK k))) ?_
        simp only [Act.put]
        replace M := M.setAll (row .u8 32 (ynK k)) (by first | (rw [row32, row32]; done) | (rw [row32]; rfl) | (rw [row32]; done))
        generalize w14.setCells B14 0 (row .u8 32 (ynK k)) = w15 at M  ⊢
        refine readL (.int .i64 0) rfl (by kernel_rfl) ?_
        simp only [aP, lI, l0, lS]
        first | show Exit.then _ _ _ _ _ | show Exit.inBlock _ _ _ _ _
        go_upto_region 18 with fail
        refine wp_region_list ?_
        refine readL (.pointer (some ⟨Ra, 0, none⟩)) rfl (by kernel_rfl) ?_
        simp only [aP, lI, l0, lS]
        have Mp := M.perm (pull0 ([(B14, row .u8 32 (ynK k)), (B10, row .u8 32 (ynK k)), (B6, row .u8 32 (ynK k)), (B1, row .u8 32 r)] : List (Nat × List Value)) ba2 ([] : List (Nat × List Value)))
        have key := hK.adv w0 _ _ (yad (yad k)) ba2 _ hg (yad_w (yad_w hkw)) hIa Mp
        clear Mp
        rw [ynE_ok h2 (by omega)] at key
        refine callL rfl (fun _ => by kernel_rfl) key ?_
        clear key
        rintro e w16 ⟨rfl, ba3, hI_, -, M', -⟩
        clear M hIa
        have hIa := hI_
        clear hI_
        have M : Mm w0 ((B14, row .u8 32 (ynK k)) :: (B10, row .u8 32 (ynK k)) :: (B6, row .u8 32 (ynK k)) :: (B1, row .u8 32 r) :: (ba3 ++ ([] : List (Nat × List Value)))) w16 := M'.perm (pull0 ([(B14, row .u8 32 (ynK k)), (B10, row .u8 32 (ynK k)), (B6, row .u8 32 (ynK k)), (B1, row .u8 32 r)] : List (Nat × List Value)) ba3 ([] : List (Nat × List Value))).symm
        clear M'
        refine ⟨_, rfl, ?_⟩
        simp only [aP, lI, l0, lS]
        refine readL (.int .i64 0) rfl (by kernel_rfl) ?_
        simp only [aP, lI, l0, lS]
        first | show Exit.then _ _ _ _ _ | show Exit.inBlock _ _ _ _ _
        go_upto_region 19 with fail
        refine wp_region_list ?_
        refine readL (.pointer (some ⟨Ra, 0, none⟩)) rfl (by kernel_rfl) ?_
        simp only [aP, lI, l0, lS]
        refine readL (.int .i64 (q : Int)) rfl (by kernel_rfl) ?_
        simp only [aP, lI, l0, lS]
        refine readL (.int .i64 ((q : Int) + 1)) rfl (addI .i64 _ _ _ _ _ _ _ rfl rfl rfl (by rw [IntKind.wrap_i64]; omega) _) ?_
        simp only [aP, lI, l0, lS]
        have Mp := M.perm (pull0 ([(B14, row .u8 32 (ynK k)), (B10, row .u8 32 (ynK k)), (B6, row .u8 32 (ynK k)), (B1, row .u8 32 r)] : List (Nat × List Value)) ba3 ([] : List (Nat × List Value)))
        have key := hK.key w0 _ _ (yad (yad (yad k))) ba3 _ ((q : Int) + 1) hg (yad_w (yad_w (yad_w hkw))) (by unfold i64; omega) hIa Mp
        clear Mp
        rw [g3] at key
        refine callL rfl (fun _ => by kernel_rfl) key ?_
        clear key
        rintro e w17 ⟨rfl, l⟩
        replace M := M.call l
        clear l
        refine ⟨_, rfl, ?_⟩
        simp only [aP, lI, l0, lS]
        refine readL (.tuple #[.agg (row .u8 32 (ykK (yad (yad (yad k))) ((q : Int) + 1))).toArray, .int .i64 150]) rfl (by kernel_rfl) ?_
        simp only [aP, lI, l0, lS]
        refine readL (.agg (row .u8 32 (ykK (yad (yad (yad k))) ((q : Int) + 1))).toArray) rfl (by kernel_rfl) ?_
        simp only [aP, lI, l0, lS]
        refine readL (.int .i64 150) rfl (by kernel_rfl) ?_
        simp only [aP, lI, l0, lS]
        refine actL (w' := w17.alloc (.cells zu8_32 23)) (.pointer (some ⟨w17.heap.size, 0, none⟩)) rfl (by kernel_rfl) ?_
        simp only [aP, lI, l0, lS]
        replace M := M.box zu8_32 23 w17.heap.size rfl
        generalize w17.alloc (.cells zu8_32 23) = w18 at M ⊢
        generalize w17.heap.size = B18 at M ⊢
        replace M : Mm w0 ((B18, row .u8 32 (fun _ => 0)) :: (B14, row .u8 32 (ynK k)) :: (B10, row .u8 32 (ynK k)) :: (B6, row .u8 32 (ynK k)) :: (B1, row .u8 32 r) :: (ba3 ++ ([] : List (Nat × List Value)))) w18 := M
        refine skipOpL rfl (storeP (row .u8 32 (ykK (yad (yad (yad k))) ((q : Int) + 1))) B18 0 23 _ _ rfl rfl rfl (M.thereP mS 0 32 (Nat.le_of_ble_eq_true rfl)) (by kernel_rfl) (row_one .u8 32 (ykK (yad (yad (yad k))) ((q : Int) + 1)))) ?_
        simp only [Act.put]
        replace M := M.setAll (row .u8 32 (ykK (yad (yad (yad k))) ((q : Int) + 1))) (by first | (rw [row32, row32]; done) | (rw [row32]; rfl) | (rw [row32]; done))
        generalize w18.setCells B18 0 (row .u8 32 (ykK (yad (yad (yad k))) ((q : Int) + 1))) = w19 at M  ⊢
        refine readL (.int .i64 150) rfl (by kernel_rfl) ?_
        simp only [aP, lI, l0, lS]
        first | show Exit.then _ _ _ _ _ | show Exit.inBlock _ _ _ _ _
        go_upto_region 20 with fail
        refine wp_region_list ?_
        refine readL (.int .i64 0) rfl (by kernel_rfl) ?_
        simp only [aP, lI, l0, lS]
        refine readL (.bool true) rfl (eqlI .i64 _ _ _ _ _ _ rfl rfl rfl true (by decide) _) ?_
        simp only [aP, lI, l0, lS]
        refine readL (.bool true) rfl (by kernel_rfl) ?_
        simp only [aP, lI, l0, lS]
        refine readL (.int .i64 0) rfl (by kernel_rfl) ?_
        simp only [aP, lI, l0, lS]
        refine readL (.bool true) rfl (eqlI .i64 _ _ _ _ _ _ rfl rfl rfl true (by decide) _) ?_
        simp only [aP, lI, l0, lS]
        refine readL (.bool true) rfl (by kernel_rfl) ?_
        simp only [aP, lI, l0, lS]
        refine readL (.bool true) rfl (by kernel_rfl) ?_
        simp only [aP, lI, l0, lS]
        refine readL (.int .i64 0) rfl (by kernel_rfl) ?_
        simp only [aP, lI, l0, lS]
        refine readL (.bool true) rfl (eqlI .i64 _ _ _ _ _ _ rfl rfl rfl true (by decide) _) ?_
        simp only [aP, lI, l0, lS]
        refine readL (.bool true) rfl (by kernel_rfl) ?_
        simp only [aP, lI, l0, lS]
        refine readL (.bool true) rfl (by kernel_rfl) ?_
        simp only [aP, lI, l0, lS]
        refine readL (.agg (row .u8 32 (ynK k)).toArray) rfl (loadN 23 _ ⟨B6, 0, none⟩ (row .u8 32 (ynK k)) rfl rfl (fun _ => by kernel_rfl) (fun _ => by rw [row32]; kernel_rfl) (M.part (mT _ (mT _ (mT _ mS))) 0 _ (by rw [List.drop_zero, List.take_length]))) ?_
        simp only [aP, lI, l0, lS]
        refine readL (.agg (row .u8 32 (ynK k)).toArray) rfl (loadN 23 _ ⟨B10, 0, none⟩ (row .u8 32 (ynK k)) rfl rfl (fun _ => by kernel_rfl) (fun _ => by rw [row32]; kernel_rfl) (M.part (mT _ (mT _ mS)) 0 _ (by rw [List.drop_zero, List.take_length]))) ?_
        simp only [aP, lI, l0, lS]
        refine readL (.bool true) rfl (eqlV 32 (ynK k) (ynK k) 23 5 _ _ _ rfl rfl rfl Tryd.underlying23 Tryd.underlying5 (fun _ => by kernel_rfl) (by kernel_rfl) (ynK_in k) (ynK_in k) true (decide_eq_true rfl) _) ?_
        simp only [aP, lI, l0, lS]
        refine readL (.bool true) rfl (by kernel_rfl) ?_
        simp only [aP, lI, l0, lS]
        refine readL (.bool true) rfl (by kernel_rfl) ?_
        simp only [aP, lI, l0, lS]
        refine readL (.int .i64 0) rfl (by kernel_rfl) ?_
        simp only [aP, lI, l0, lS]
        refine readL (.bool true) rfl (eqlI .i64 _ _ _ _ _ _ rfl rfl rfl true (by decide) _) ?_
        simp only [aP, lI, l0, lS]
        refine readL (.bool true) rfl (by kernel_rfl) ?_
        simp only [aP, lI, l0, lS]
        refine readL (.bool true) rfl (by kernel_rfl) ?_
        simp only [aP, lI, l0, lS]
        refine readL (.int .i64 0) rfl (by kernel_rfl) ?_
        simp only [aP, lI, l0, lS]
        refine readL (.bool true) rfl (eqlI .i64 _ _ _ _ _ _ rfl rfl rfl true (by decide) _) ?_
        simp only [aP, lI, l0, lS]
        refine readL (.bool true) rfl (by kernel_rfl) ?_
        simp only [aP, lI, l0, lS]
        refine readL (.bool true) rfl (by kernel_rfl) ?_
        simp only [aP, lI, l0, lS]
        refine readL (.agg (row .u8 32 (ynK k)).toArray) rfl (loadN 23 _ ⟨B6, 0, none⟩ (row .u8 32 (ynK k)) rfl rfl (fun _ => by kernel_rfl) (fun _ => by rw [row32]; kernel_rfl) (M.part (mT _ (mT _ (mT _ mS))) 0 _ (by rw [List.drop_zero, List.take_length]))) ?_
        simp only [aP, lI, l0, lS]
        refine readL (.agg (row .u8 32 (ynK k)).toArray) rfl (loadN 23 _ ⟨B14, 0, none⟩ (row .u8 32 (ynK k)) rfl rfl (fun _ => by kernel_rfl) (fun _ => by rw [row32]; kernel_rfl) (M.part (mT _ mS) 0 _ (by rw [List.drop_zero, List.take_length]))) ?_
        simp only [aP, lI, l0, lS]
        refine readL (.bool true) rfl (eqlV 32 (ynK k) (ynK k) 23 5 _ _ _ rfl rfl rfl Tryd.underlying23 Tryd.underlying5 (fun _ => by kernel_rfl) (by kernel_rfl) (ynK_in k) (ynK_in k) true (decide_eq_true rfl) _) ?_
        simp only [aP, lI, l0, lS]
        refine readL (.bool true) rfl (by kernel_rfl) ?_
        simp only [aP, lI, l0, lS]
        refine readL (.bool true) rfl (by kernel_rfl) ?_
        simp only [aP, lI, l0, lS]
        refine readL (.int .i64 0) rfl (by kernel_rfl) ?_
        simp only [aP, lI, l0, lS]
        refine readL (.bool true) rfl (eqlI .i64 _ _ _ _ _ _ rfl rfl rfl true (by decide) _) ?_
        simp only [aP, lI, l0, lS]
        refine readL (.bool true) rfl (by kernel_rfl) ?_
        simp only [aP, lI, l0, lS]
        refine readL (.bool true) rfl (by kernel_rfl) ?_
        simp only [aP, lI, l0, lS]
        refine readL (.int .i64 150) rfl (by kernel_rfl) ?_
        simp only [aP, lI, l0, lS]
        refine readL (.bool true) rfl (eqlI .i64 _ _ _ _ _ _ rfl rfl rfl true (by decide) _) ?_
        simp only [aP, lI, l0, lS]
        refine readL (.bool true) rfl (by kernel_rfl) ?_
        simp only [aP, lI, l0, lS]
        refine readL (.bool true) rfl (by kernel_rfl) ?_
        simp only [aP, lI, l0, lS]
        refine readL (.pointer (some ⟨Ra, 0, none⟩)) rfl (by kernel_rfl) ?_
        simp only [aP, lI, l0, lS]
        have Mp := M.perm (pull0 ([(B18, row .u8 32 (ykK (yad (yad (yad k))) ((q : Int) + 1))), (B14, row .u8 32 (ynK k)), (B10, row .u8 32 (ynK k)), (B6, row .u8 32 (ynK k)), (B1, row .u8 32 r)] : List (Nat × List Value)) ba3 ([] : List (Nat × List Value)))
        have key := hK.epo w0 _ _ (yad (yad (yad k))) ba3 _ (yad_w (yad_w (yad_w hkw))) hIa Mp
        clear Mp
        rw [h3] at key
        refine callL rfl (fun _ => by kernel_rfl) key ?_
        clear key
        rintro e w20 ⟨rfl, l⟩
        replace M := M.call l
        clear l
        refine ⟨_, rfl, ?_⟩
        simp only [aP, lI, l0, lS]
        refine readL (.int .i64 (q : Int)) rfl (by kernel_rfl) ?_
        simp only [aP, lI, l0, lS]
        refine readL (.int .i64 ((q : Int) + 3)) rfl (addI .i64 _ _ _ _ _ _ _ rfl rfl rfl (by rw [IntKind.wrap_i64]; omega) _) ?_
        simp only [aP, lI, l0, lS]
        refine readL (.bool true) rfl (eqlI .i64 _ _ _ _ _ _ rfl rfl rfl true (by rw [show (q : Int) + 1 + 1 + 1 = (q : Int) + 3 by omega]; exact beq_self_eq_true _) _) ?_
        simp only [aP, lI, l0, lS]
        refine readL (.bool true) rfl (by kernel_rfl) ?_
        simp only [aP, lI, l0, lS]
        refine readL (.bool true) rfl (by kernel_rfl) ?_
        simp only [aP, lI, l0, lS]
        first | show Exit.then _ _ _ _ _ | show Exit.inBlock _ _ _ _ _
        have hbel := M.below
        clear M
        go_wp2
        go_ret
        exact ⟨rfl, hbel⟩
  · go_upto_region 5 with fail
    refine wp_region_list ?_
    refine readL (.int .i64 z) rfl (by kernel_rfl) ?_
    simp only [aP, lI, l0, lS]
    refine readL (.bool false) rfl (lssI .i64 _ _ _ _ _ _ rfl rfl rfl false (decide_eq_false hneg) _) ?_
    simp only [aP, lI, l0, lS]
    first | show Exit.then _ _ _ _ _ | show Exit.inBlock _ _ _ _ _
    obtain ⟨N, hN, hN2⟩ := tmod_nat15 z (by omega) 20 (by decide)
    go_upto_region 7 with fail
    refine wp_region_list ?_
    refine readL (.int .i64 z) rfl (by kernel_rfl) ?_
    simp only [aP, lI, l0, lS]
    refine readL (.int .i64 (N : Int)) rfl (remI .i64 _ _ _ _ _ _ _ rfl rfl rfl (by decide) hN _) ?_
    simp only [aP, lI, l0, lS]
    refine readL (.int .i64 (N : Int)) rfl (by kernel_rfl) ?_
    simp only [aP, lI, l0, lS]
    first | show Exit.then _ _ _ _ _ | show Exit.inBlock _ _ _ _ _
    go_upto_region 8 with fail
    refine wp_region_list ?_
    refine readL (.int .i64 0) rfl (by kernel_rfl) ?_
    simp only [aP, lI, l0, lS]
    first | show Exit.then _ _ _ _ _ | show Exit.inBlock _ _ _ _ _
    have HI := show Hid _ from (show I (.pointer (some ⟨Ra, 0, none⟩)) (yon 0 (ynew r)) ba0 ∧ Mm w0 ((B1, row .u8 32 r) :: (ba0 ++ ([] : List (Nat × List Value)))) w3 from ⟨hIa, M⟩)
    clear M hIa hN
    go_wp2
    go_loopw [7] (fun i w' => ∃ (q : Nat) (bs : List (Nat × List Value)), q ≤ N ∧ i = .int .i64 (q : Int) ∧ I (.pointer (some ⟨Ra, 0, none⟩)) (yon q (ynew r)) bs ∧ Mm w0 ((B1, row .u8 32 r) :: (bs ++ ([] : List (Nat × List Value)))) w') (fun i _ => N - (intOf i).toNat)
    case atStart => exact ⟨0, _, by omega, rfl, HI.out⟩
    case round =>
      clear HI
      obtain ⟨q, bs, hq, rfl, hIa, M⟩ := hrel
      have hke := yon_e (k := ynew r) rfl q (by omega)
      have hkw := yon_w (ynew_w hr) q
      by_cases hlt : q < N
      · go_upto_region 9 with fail
        refine wp_region_list ?_
        refine readL (.int .i64 (q : Int)) rfl (by kernel_rfl) ?_
        simp only [aP, lI, l0, lS]
        refine readL (.int .i64 (N : Int)) rfl (by kernel_rfl) ?_
        simp only [aP, lI, l0, lS]
        refine readL (.bool true) rfl (lssI .i64 _ _ _ _ _ _ rfl rfl rfl true (decide_eq_true (by omega)) _) ?_
        simp only [aP, lI, l0, lS]
        first | show Exit.then _ _ _ _ _ | show Exit.inBlock _ _ _ _ _
        go_upto_region 11 with fail
        refine wp_region_list ?_
        refine readL (.pointer (some ⟨Ra, 0, none⟩)) rfl (by kernel_rfl) ?_
        simp only [aP, lI, l0, lS]
        have Mp := M.perm (pull0 ([(B1, row .u8 32 r)] : List (Nat × List Value)) bs ([] : List (Nat × List Value)))
        have key := hK.adv w0 _ _ (yon q (ynew r)) bs _ hg hkw hIa Mp
        clear Mp
        rw [ynE_ok hke (by omega)] at key
        refine callL rfl (fun _ => by kernel_rfl) key ?_
        clear key
        rintro e w21 ⟨rfl, ba1, hI_, -, M', -⟩
        clear M hIa
        have hIa := hI_
        clear hI_
        have M : Mm w0 ((B1, row .u8 32 r) :: (ba1 ++ ([] : List (Nat × List Value)))) w21 := M'.perm (pull0 ([(B1, row .u8 32 r)] : List (Nat × List Value)) ba1 ([] : List (Nat × List Value))).symm
        clear M'
        refine ⟨_, rfl, ?_⟩
        simp only [aP, lI, l0, lS]
        refine readL (.bool false) rfl (neqI .i64 _ _ _ _ _ _ rfl rfl rfl false (by decide) _) ?_
        simp only [aP, lI, l0, lS]
        first | show Exit.then _ _ _ _ _ | show Exit.inBlock _ _ _ _ _
        have HS := show Hid _ from (And.intro hIa M)
        clear M hIa hke hkw
        go_wp2
        go_roundw
        case rel => exact ⟨q + 1, _, by omega, by go_num, HS.out⟩
        case measure => simp [intOf]; omega
      · obtain rfl : q = N := by omega
        go_upto_region 9 with fail
        refine wp_region_list ?_
        refine readL (.int .i64 (q : Int)) rfl (by kernel_rfl) ?_
        simp only [aP, lI, l0, lS]
        refine readL (.int .i64 (q : Int)) rfl (by kernel_rfl) ?_
        simp only [aP, lI, l0, lS]
        refine readL (.bool false) rfl (lssI .i64 _ _ _ _ _ _ rfl rfl rfl false (decide_eq_false (by omega)) _) ?_
        simp only [aP, lI, l0, lS]
        first | show Exit.then _ _ _ _ _ | show Exit.inBlock _ _ _ _ _
        generalize yon q (ynew r) = k at hIa hke hkw
        have h1 := yad_e hke (by omega)
        have h2 := yad_e h1 (by omega)
        have h3 := yad_e h2 (by omega)
        have f1 : ykK (yad k) ((q : Int) + 1) = ynK k := by rw [← hke]; exact ykK_next (by omega)
        have g1 : ykE (yad k) ((q : Int) + 1) = 0 := ykE_now h1.symm
        have f2 : ykK (yad (yad k)) ((q : Int) + 1) = ynK k := by rw [← hke]; exact (ykK_next2 (by omega)).1
        have g2 : ykE (yad (yad k)) ((q : Int) + 1) = 0 := by rw [← hke]; exact (ykK_next2 (by omega)).2
        have g3 : ykE (yad (yad (yad k))) ((q : Int) + 1) = 150 := by rw [← hke]; exact ykE_gone (by omega)
        go_upto_region 13 with fail
        refine wp_region_list ?_
        refine readL (.pointer (some ⟨Ra, 0, none⟩)) rfl (by kernel_rfl) ?_
        simp only [aP, lI, l0, lS]
        have Mp := M.perm (pull0 ([(B1, row .u8 32 r)] : List (Nat × List Value)) bs ([] : List (Nat × List Value)))
        have key := hK.nxt w0 _ _ k bs _ hg hkw hIa Mp
        clear Mp
        rw [ynE_ok hke (by omega)] at key
        refine callL rfl (fun _ => by kernel_rfl) key ?_
        clear key
        rintro e w22 ⟨rfl, l⟩
        replace M := M.call l
        clear l
        refine ⟨_, rfl, ?_⟩
        simp only [aP, lI, l0, lS]
        refine readL (.tuple #[.agg (row .u8 32 (ynK k)).toArray, .int .i64 0]) rfl (by kernel_rfl) ?_
        simp only [aP, lI, l0, lS]
        refine readL (.agg (row .u8 32 (ynK k)).toArray) rfl (by kernel_rfl) ?_
        simp only [aP, lI, l0, lS]
        refine readL (.int .i64 0) rfl (by kernel_rfl) ?_
        simp only [aP, lI, l0, lS]
        refine actL (w' := w22.alloc (.cells zu8_32 23)) (.pointer (some ⟨w22.heap.size, 0, none⟩)) rfl (by kernel_rfl) ?_
        simp only [aP, lI, l0, lS]
        replace M := M.box zu8_32 23 w22.heap.size rfl
        generalize w22.alloc (.cells zu8_32 23) = w23 at M ⊢
        generalize w22.heap.size = B23 at M ⊢
        replace M : Mm w0 ((B23, row .u8 32 (fun _ => 0)) :: (B1, row .u8 32 r) :: (bs ++ ([] : List (Nat × List Value)))) w23 := M
        refine skipOpL rfl (storeP (row .u8 32 (ynK k)) B23 0 23 _ _ rfl rfl rfl (M.thereP mS 0 32 (Nat.le_of_ble_eq_true rfl)) (by kernel_rfl) (row_one .u8 32 (ynK k))) ?_
        simp only [Act.put]
        replace M := M.setAll (row .u8 32 (ynK k)) (by first | (rw [row32, row32]; done) | (rw [row32]; rfl) | (rw [row32]; done))
        generalize w23.setCells B23 0 (row .u8 32 (ynK k)) = w24 at M  ⊢
        refine readL (.int .i64 0) rfl (by kernel_rfl) ?_
        simp only [aP, lI, l0, lS]
        first | show Exit.then _ _ _ _ _ | show Exit.inBlock _ _ _ _ _
        go_upto_region 14 with fail
        refine wp_region_list ?_
        refine readL (.pointer (some ⟨Ra, 0, none⟩)) rfl (by kernel_rfl) ?_
        simp only [aP, lI, l0, lS]
        have Mp := M.perm (pull0 ([(B23, row .u8 32 (ynK k)), (B1, row .u8 32 r)] : List (Nat × List Value)) bs ([] : List (Nat × List Value)))
        have key := hK.adv w0 _ _ k bs _ hg hkw hIa Mp
        clear Mp
        rw [ynE_ok hke (by omega)] at key
        refine callL rfl (fun _ => by kernel_rfl) key ?_
        clear key
        rintro e w25 ⟨rfl, ba1, hI_, -, M', -⟩
        clear M hIa
        have hIa := hI_
        clear hI_
        have M : Mm w0 ((B23, row .u8 32 (ynK k)) :: (B1, row .u8 32 r) :: (ba1 ++ ([] : List (Nat × List Value)))) w25 := M'.perm (pull0 ([(B23, row .u8 32 (ynK k)), (B1, row .u8 32 r)] : List (Nat × List Value)) ba1 ([] : List (Nat × List Value))).symm
        clear M'
        refine ⟨_, rfl, ?_⟩
        simp only [aP, lI, l0, lS]
        refine readL (.int .i64 0) rfl (by kernel_rfl) ?_
        simp only [aP, lI, l0, lS]
        first | show Exit.then _ _ _ _ _ | show Exit.inBlock _ _ _ _ _
        go_upto_region 15 with fail
        refine wp_region_list ?_
        refine readL (.pointer (some ⟨Ra, 0, none⟩)) rfl (by kernel_rfl) ?_
        simp only [aP, lI, l0, lS]
        refine readL (.int .i64 (q : Int)) rfl (by kernel_rfl) ?_
        simp only [aP, lI, l0, lS]
        refine readL (.int .i64 ((q : Int) + 1)) rfl (addI .i64 _ _ _ _ _ _ _ rfl rfl rfl (by rw [IntKind.wrap_i64]; omega) _) ?_
        simp only [aP, lI, l0, lS]
        have Mp := M.perm (pull0 ([(B23, row .u8 32 (ynK k)), (B1, row .u8 32 r)] : List (Nat × List Value)) ba1 ([] : List (Nat × List Value)))
        have key := hK.key w0 _ _ (yad k) ba1 _ ((q : Int) + 1) hg (yad_w hkw) (by unfold i64; omega) hIa Mp
        clear Mp
        rw [f1, g1] at key
        refine callL rfl (fun _ => by kernel_rfl) key ?_
        clear key
        rintro e w26 ⟨rfl, l⟩
        replace M := M.call l
        clear l
        refine ⟨_, rfl, ?_⟩
        simp only [aP, lI, l0, lS]
        refine readL (.tuple #[.agg (row .u8 32 (ynK k)).toArray, .int .i64 0]) rfl (by kernel_rfl) ?_
        simp only [aP, lI, l0, lS]
        refine readL (.agg (row .u8 32 (ynK k)).toArray) rfl (by kernel_rfl) ?_
        simp only [aP, lI, l0, lS]
        refine readL (.int .i64 0) rfl (by kernel_rfl) ?_
        simp only [aP, lI, l0, lS]
        refine actL (w' := w26.alloc (.cells zu8_32 23)) (.pointer (some ⟨w26.heap.size, 0, none⟩)) rfl (by kernel_rfl) ?_
        simp only [aP, lI, l0, lS]
        replace M := M.box zu8_32 23 w26.heap.size rfl
        generalize w26.alloc (.cells zu8_32 23) = w27 at M ⊢
        generalize w26.heap.size = B27 at M ⊢
        replace M : Mm w0 ((B27, row .u8 32 (fun _ => 0)) :: (B23, row .u8 32 (ynK k)) :: (B1, row .u8 32 r) :: (ba1 ++ ([] : List (Nat × List Value)))) w27 := M
        refine skipOpL rfl (storeP (row .u8 32 (ynK k)) B27 0 23 _ _ rfl rfl rfl (M.thereP mS 0 32 (Nat.le_of_ble_eq_true rfl)) (by kernel_rfl) (row_one .u8 32 (ynK k))) ?_
        simp only [Act.put]
        replace M := M.setAll (row .u8 32 (ynK k)) (by first | (rw [row32, row32]; done) | (rw [row32]; rfl) | (rw [row32]; done))
        generalize w27.setCells B27 0 (row .u8 32 (ynK k)) = w28 at M  ⊢
        refine readL (.int .i64 0) rfl (by kernel_rfl) ?_
        simp only [aP, lI, l0, lS]
        first | show Exit.then _ _ _ _ _ | show Exit.inBlock _ _ _ _ _
        go_upto_region 16 with fail
        refine wp_region_list ?_
        refine readL (.pointer (some ⟨Ra, 0, none⟩)) rfl (by kernel_rfl) ?_
        simp only [aP, lI, l0, lS]
        have Mp := M.perm (pull0 ([(B27, row .u8 32 (ynK k)), (B23, row .u8 32 (ynK k)), (B1, row .u8 32 r)] : List (Nat × List Value)) ba1 ([] : List (Nat × List Value)))
        have key := hK.adv w0 _ _ (yad k) ba1 _ hg (yad_w hkw) hIa Mp
        clear Mp
        rw [ynE_ok h1 (by omega)] at key
        refine callL rfl (fun _ => by kernel_rfl) key ?_
        clear key
        rintro e w29 ⟨rfl, ba2, hI_, -, M', -⟩
        clear M hIa
        have hIa := hI_
        clear hI_
        have M : Mm w0 ((B27, row .u8 32 (ynK k)) :: (B23, row .u8 32 (ynK k)) :: (B1, row .u8 32 r) :: (ba2 ++ ([] : List (Nat × List Value)))) w29 := M'.perm (pull0 ([(B27, row .u8 32 (ynK k)), (B23, row .u8 32 (ynK k)), (B1, row .u8 32 r)] : List (Nat × List Value)) ba2 ([] : List (Nat × List Value))).symm
        clear M'
        refine ⟨_, rfl, ?_⟩
        simp only [aP, lI, l0, lS]
        refine readL (.int .i64 0) rfl (by kernel_rfl) ?_
        simp only [aP, lI, l0, lS]
        first | show Exit.then _ _ _ _ _ | show Exit.inBlock _ _ _ _ _
        go_upto_region 17 with fail
        refine wp_region_list ?_
        refine readL (.pointer (some ⟨Ra, 0, none⟩)) rfl (by kernel_rfl) ?_
        simp only [aP, lI, l0, lS]
        refine readL (.int .i64 (q : Int)) rfl (by kernel_rfl) ?_
        simp only [aP, lI, l0, lS]
        refine readL (.int .i64 ((q : Int) + 1)) rfl (addI .i64 _ _ _ _ _ _ _ rfl rfl rfl (by rw [IntKind.wrap_i64]; omega) _) ?_
        simp only [aP, lI, l0, lS]
        have Mp := M.perm (pull0 ([(B27, row .u8 32 (ynK k)), (B23, row .u8 32 (ynK k)), (B1, row .u8 32 r)] : List (Nat × List Value)) ba2 ([] : List (Nat × List Value)))
        have key := hK.key w0 _ _ (yad (yad k)) ba2 _ ((q : Int) + 1) hg (yad_w (yad_w hkw)) (by unfold i64; omega) hIa Mp
        clear Mp
        rw [f2, g2] at key
        refine callL rfl (fun _ => by kernel_rfl) key ?_
        clear key
        rintro e w30 ⟨rfl, l⟩
        replace M := M.call l
        clear l
        refine ⟨_, rfl, ?_⟩
        simp only [aP, lI, l0, lS]
        refine readL (.tuple #[.agg (row .u8 32 (ynK k)).toArray, .int .i64 0]) rfl (by kernel_rfl) ?_
        simp only [aP, lI, l0, lS]
        refine readL (.agg (row .u8 32 (ynK k)).toArray) rfl (by kernel_rfl) ?_
        simp only [aP, lI, l0, lS]
        refine readL (.int .i64 0) rfl (by kernel_rfl) ?_
        simp only [aP, lI, l0, lS]
        refine actL (w' := w30.alloc (.cells zu8_32 23)) (.pointer (some ⟨w30.heap.size, 0, none⟩)) rfl (by kernel_rfl) ?_
        simp only [aP, lI, l0, lS]
        replace M := M.box zu8_32 23 w30.heap.size rfl
        generalize w30.alloc (.cells zu8_32 23) = w31 at M ⊢
        generalize w30.heap.size = B31 at M ⊢
        replace M : Mm w0 ((B31, row .u8 32 (fun _ => 0)) :: (B27, row .u8 32 (ynK k)) :: (B23, row .u8 32 (ynK k)) :: (B1, row .u8 32 r) :: (ba2 ++ ([] : List (Nat × List Value)))) w31 := M
        refine skipOpL rfl (storeP (row .u8 32 (ynK k)) B31 0 23 _ _ rfl rfl rfl (M.thereP mS 0 32 (Nat.le_of_ble_eq_true rfl)) (by kernel_rfl) (row_one .u8 32 (ynK k))) ?_
        simp only [Act.put]
        replace M := M.setAll (row .u8 32 (ynK k)) (by first | (rw [row32, row32]; done) | (rw [row32]; rfl) | (rw [row32]; done))
        generalize w31.setCells B31 0 (row .u8 32 (ynK k)) = w32 at M  ⊢
        refine readL (.int .i64 0) rfl (by kernel_rfl) ?_
        simp only [aP, lI, l0, lS]
        first | show Exit.then _ _ _ _ _ | show Exit.inBlock _ _ _ _ _
        go_upto_region 18 with fail
        refine wp_region_list ?_
        refine readL (.pointer (some ⟨Ra, 0, none⟩)) rfl (by kernel_rfl) ?_
        simp only [aP, lI, l0, lS]
        have Mp := M.perm (pull0 ([(B31, row .u8 32 (ynK k)), (B27, row .u8 32 (ynK k)), (B23, row .u8 32 (ynK k)), (B1, row .u8 32 r)] : List (Nat × List Value)) ba2 ([] : List (Nat × List Value)))
        have key := hK.adv w0 _ _ (yad (yad k)) ba2 _ hg (yad_w (yad_w hkw)) hIa Mp
        clear Mp
        rw [ynE_ok h2 (by omega)] at key
        refine callL rfl (fun _ => by kernel_rfl) key ?_
        clear key
        rintro e w33 ⟨rfl, ba3, hI_, -, M', -⟩
        clear M hIa
        have hIa := hI_
        clear hI_
        have M : Mm w0 ((B31, row .u8 32 (ynK k)) :: (B27, row .u8 32 (ynK k)) :: (B23, row .u8 32 (ynK k)) :: (B1, row .u8 32 r) :: (ba3 ++ ([] : List (Nat × List Value)))) w33 := M'.perm (pull0 ([(B31, row .u8 32 (ynK k)), (B27, row .u8 32 (ynK k)), (B23, row .u8 32 (ynK k)), (B1, row .u8 32 r)] : List (Nat × List Value)) ba3 ([] : List (Nat × List Value))).symm
        clear M'
        refine ⟨_, rfl, ?_⟩
        simp only [aP, lI, l0, lS]
        refine readL (.int .i64 0) rfl (by kernel_rfl) ?_
        simp only [aP, lI, l0, lS]
        first | show Exit.then _ _ _ _ _ | show Exit.inBlock _ _ _ _ _
        go_upto_region 19 with fail
        refine wp_region_list ?_
        refine readL (.pointer (some ⟨Ra, 0, none⟩)) rfl (by kernel_rfl) ?_
        simp only [aP, lI, l0, lS]
        refine readL (.int .i64 (q : Int)) rfl (by kernel_rfl) ?_
        simp only [aP, lI, l0, lS]
        refine readL (.int .i64 ((q : Int) + 1)) rfl (addI .i64 _ _ _ _ _ _ _ rfl rfl rfl (by rw [IntKind.wrap_i64]; omega) _) ?_
        simp only [aP, lI, l0, lS]
        have Mp := M.perm (pull0 ([(B31, row .u8 32 (ynK k)), (B27, row .u8 32 (ynK k)), (B23, row .u8 32 (ynK k)), (B1, row .u8 32 r)] : List (Nat × List Value)) ba3 ([] : List (Nat × List Value)))
        have key := hK.key w0 _ _ (yad (yad (yad k))) ba3 _ ((q : Int) + 1) hg (yad_w (yad_w (yad_w hkw))) (by unfold i64; omega) hIa Mp
        clear Mp
        rw [g3] at key
        refine callL rfl (fun _ => by kernel_rfl) key ?_
        clear key
        rintro e w34 ⟨rfl, l⟩
        replace M := M.call l
        clear l
        refine ⟨_, rfl, ?_⟩
        simp only [aP, lI, l0, lS]
        refine readL (.tuple #[.agg (row .u8 32 (ykK (yad (yad (yad k))) ((q : Int) + 1))).toArray, .int .i64 150]) rfl (by kernel_rfl) ?_
        simp only [aP, lI, l0, lS]
        refine readL (.agg (row .u8 32 (ykK (yad (yad (yad k))) ((q : Int) + 1))).toArray) rfl (by kernel_rfl) ?_
        simp only [aP, lI, l0, lS]
        refine readL (.int .i64 150) rfl (by kernel_rfl) ?_
        simp only [aP, lI, l0, lS]
        refine actL (w' := w34.alloc (.cells zu8_32 23)) (.pointer (some ⟨w34.heap.size, 0, none⟩)) rfl (by kernel_rfl) ?_
        simp only [aP, lI, l0, lS]
        replace M := M.box zu8_32 23 w34.heap.size rfl
        generalize w34.alloc (.cells zu8_32 23) = w35 at M ⊢
        generalize w34.heap.size = B35 at M ⊢
        replace M : Mm w0 ((B35, row .u8 32 (fun _ => 0)) :: (B31, row .u8 32 (ynK k)) :: (B27, row .u8 32 (ynK k)) :: (B23, row .u8 32 (ynK k)) :: (B1, row .u8 32 r) :: (ba3 ++ ([] : List (Nat × List Value)))) w35 := M
        refine skipOpL rfl (storeP (row .u8 32 (ykK (yad (yad (yad k))) ((q : Int) + 1))) B35 0 23 _ _ rfl rfl rfl (M.thereP mS 0 32 (Nat.le_of_ble_eq_true rfl)) (by kernel_rfl) (row_one .u8 32 (ykK (yad (yad (yad k))) ((q : Int) + 1)))) ?_
        simp only [Act.put]
        replace M := M.setAll (row .u8 32 (ykK (yad (yad (yad k))) ((q : Int) + 1))) (by first | (rw [row32, row32]; done) | (rw [row32]; rfl) | (rw [row32]; done))
        generalize w35.setCells B35 0 (row .u8 32 (ykK (yad (yad (yad k))) ((q : Int) + 1))) = w36 at M  ⊢
        refine readL (.int .i64 150) rfl (by kernel_rfl) ?_
        simp only [aP, lI, l0, lS]
        first | show Exit.then _ _ _ _ _ | show Exit.inBlock _ _ _ _ _
        go_upto_region 20 with fail
        refine wp_region_list ?_
        refine readL (.int .i64 0) rfl (by kernel_rfl) ?_
        simp only [aP, lI, l0, lS]
        refine readL (.bool true) rfl (eqlI .i64 _ _ _ _ _ _ rfl rfl rfl true (by decide) _) ?_
        simp only [aP, lI, l0, lS]
        refine readL (.bool true) rfl (by kernel_rfl) ?_
        simp only [aP, lI, l0, lS]
        refine readL (.int .i64 0) rfl (by kernel_rfl) ?_
        simp only [aP, lI, l0, lS]
        refine readL (.bool true) rfl (eqlI .i64 _ _ _ _ _ _ rfl rfl rfl true (by decide) _) ?_
        simp only [aP, lI, l0, lS]
        refine readL (.bool true) rfl (by kernel_rfl) ?_
        simp only [aP, lI, l0, lS]
        refine readL (.bool true) rfl (by kernel_rfl) ?_
        simp only [aP, lI, l0, lS]
        refine readL (.int .i64 0) rfl (by kernel_rfl) ?_
        simp only [aP, lI, l0, lS]
        refine readL (.bool true) rfl (eqlI .i64 _ _ _ _ _ _ rfl rfl rfl true (by decide) _) ?_
        simp only [aP, lI, l0, lS]
        refine readL (.bool true) rfl (by kernel_rfl) ?_
        simp only [aP, lI, l0, lS]
        refine readL (.bool true) rfl (by kernel_rfl) ?_
        simp only [aP, lI, l0, lS]
        refine readL (.agg (row .u8 32 (ynK k)).toArray) rfl (loadN 23 _ ⟨B23, 0, none⟩ (row .u8 32 (ynK k)) rfl rfl (fun _ => by kernel_rfl) (fun _ => by rw [row32]; kernel_rfl) (M.part (mT _ (mT _ (mT _ mS))) 0 _ (by rw [List.drop_zero, List.take_length]))) ?_
        simp only [aP, lI, l0, lS]
        refine readL (.agg (row .u8 32 (ynK k)).toArray) rfl (loadN 23 _ ⟨B27, 0, none⟩ (row .u8 32 (ynK k)) rfl rfl (fun _ => by kernel_rfl) (fun _ => by rw [row32]; kernel_rfl) (M.part (mT _ (mT _ mS)) 0 _ (by rw [List.drop_zero, List.take_length]))) ?_
        simp only [aP, lI, l0, lS]
        refine readL (.bool true) rfl (eqlV 32 (ynK k) (ynK k) 23 5 _ _ _ rfl rfl rfl Tryd.underlying23 Tryd.underlying5 (fun _ => by kernel_rfl) (by kernel_rfl) (ynK_in k) (ynK_in k) true (decide_eq_true rfl) _) ?_
        simp only [aP, lI, l0, lS]
        refine readL (.bool true) rfl (by kernel_rfl) ?_
        simp only [aP, lI, l0, lS]
        refine readL (.bool true) rfl (by kernel_rfl) ?_
        simp only [aP, lI, l0, lS]
        refine readL (.int .i64 0) rfl (by kernel_rfl) ?_
        simp only [aP, lI, l0, lS]
        refine readL (.bool true) rfl (eqlI .i64 _ _ _ _ _ _ rfl rfl rfl true (by decide) _) ?_
        simp only [aP, lI, l0, lS]
        refine readL (.bool true) rfl (by kernel_rfl) ?_
        simp only [aP, lI, l0, lS]
        refine readL (.bool true) rfl (by kernel_rfl) ?_
        simp only [aP, lI, l0, lS]
        refine readL (.int .i64 0) rfl (by kernel_rfl) ?_
        simp only [aP, lI, l0, lS]
        refine readL (.bool true) rfl (eqlI .i64 _ _ _ _ _ _ rfl rfl rfl true (by decide) _) ?_
        simp only [aP, lI, l0, lS]
        refine readL (.bool true) rfl (by kernel_rfl) ?_
        simp only [aP, lI, l0, lS]
        refine readL (.bool true) rfl (by kernel_rfl) ?_
        simp only [aP, lI, l0, lS]
        refine readL (.agg (row .u8 32 (ynK k)).toArray) rfl (loadN 23 _ ⟨B23, 0, none⟩ (row .u8 32 (ynK k)) rfl rfl (fun _ => by kernel_rfl) (fun _ => by rw [row32]; kernel_rfl) (M.part (mT _ (mT _ (mT _ mS))) 0 _ (by rw [List.drop_zero, List.take_length]))) ?_
        simp only [aP, lI, l0, lS]
        refine readL (.agg (row .u8 32 (ynK k)).toArray) rfl (loadN 23 _ ⟨B31, 0, none⟩ (row .u8 32 (ynK k)) rfl rfl (fun _ => by kernel_rfl) (fun _ => by rw [row32]; kernel_rfl) (M.part (mT _ mS) 0 _ (by rw [List.drop_zero, List.take_length]))) ?_
        simp only [aP, lI, l0, lS]
        refine readL (.bool true) rfl (eqlV 32 (ynK k) (ynK k) 23 5 _ _ _ rfl rfl rfl Tryd.underlying23 Tryd.underlying5 (fun _ => by kernel_rfl) (by kernel_rfl) (ynK_in k) (ynK_in k) true (decide_eq_true rfl) _) ?_
        simp only [aP, lI, l0, lS]
        refine readL (.bool true) rfl (by kernel_rfl) ?_
        simp only [aP, lI, l0, lS]
        refine readL (.bool true) rfl (by kernel_rfl) ?_
        simp only [aP, lI, l0, lS]
        refine readL (.int .i64 0) rfl (by kernel_rfl) ?_
        simp only [aP, lI, l0, lS]
        refine readL (.bool true) rfl (eqlI .i64 _ _ _ _ _ _ rfl rfl rfl true (by decide) _) ?_
        simp only [aP, lI, l0, lS]
        refine readL (.bool true) rfl (by kernel_rfl) ?_
        simp only [aP, lI, l0, lS]
        refine readL (.bool true) rfl (by kernel_rfl) ?_
        simp only [aP, lI, l0, lS]
        refine readL (.int .i64 150) rfl (by kernel_rfl) ?_
        simp only [aP, lI, l0, lS]
        refine readL (.bool true) rfl (eqlI .i64 _ _ _ _ _ _ rfl rfl rfl true (by decide) _) ?_
        simp only [aP, lI, l0, lS]
        refine readL (.bool true) rfl (by kernel_rfl) ?_
        simp only [aP, lI, l0, lS]
        refine readL (.bool true) rfl (by kernel_rfl) ?_
        simp only [aP, lI, l0, lS]
        refine readL (.pointer (some ⟨Ra, 0, none⟩)) rfl (by kernel_rfl) ?_
        simp only [aP, lI, l0, lS]
        have Mp := M.perm (pull0 ([(B35, row .u8 32 (ykK (yad (yad (yad k))) ((q : Int) + 1))), (B31, row .u8 32 (ynK k)), (B27, row .u8 32 (ynK k)), (B23, row .u8 32 (ynK k)), (B1, row .u8 32 r)] : List (Nat × List Value)) ba3 ([] : List (Nat × List Value)))
        have key := hK.epo w0 _ _ (yad (yad (yad k))) ba3 _ (yad_w (yad_w (yad_w hkw))) hIa Mp
        clear Mp
        rw [h3] at key
        refine callL rfl (fun _ => by kernel_rfl) key ?_
        clear key
        rintro e w37 ⟨rfl, l⟩
        replace M := M.call l
        clear l
        refine ⟨_, rfl, ?_⟩
        simp only [aP, lI, l0, lS]
        refine readL (.int .i64 (q : Int)) rfl (by kernel_rfl) ?_
        simp only [aP, lI, l0, lS]
        refine readL (.int .i64 ((q : Int) + 3)) rfl (addI .i64 _ _ _ _ _ _ _ rfl rfl rfl (by rw [IntKind.wrap_i64]; omega) _) ?_
        simp only [aP, lI, l0, lS]
        refine readL (.bool true) rfl (eqlI .i64 _ _ _ _ _ _ rfl rfl rfl true (by rw [show (q : Int) + 1 + 1 + 1 = (q : Int) + 3 by omega]; exact beq_self_eq_true _) _) ?_
        simp only [aP, lI, l0, lS]
        refine readL (.bool true) rfl (by kernel_rfl) ?_
        simp only [aP, lI, l0, lS]
        refine readL (.bool true) rfl (by kernel_rfl) ?_
        simp only [aP, lI, l0, lS]
        first | show Exit.then _ _ _ _ _ | show Exit.inBlock _ _ _ _ _
        have hbel := M.below
        clear M
        go_wp2
        go_ret
        exact ⟨rfl, hbel⟩
def BHashOK : Prop := ∀ (sp : Option Addr) (len cap : Nat), len ≤ 140737488355072 → len ≤ cap → (sp = none → cap = 0) → ∀ z : Nat → Int, In 256 len z → ∀ w : World, BGlob w → Src w sp len z →
    Calls Tryd.prog 32 #[.slice sp len cap] w fun e w' => e = .returned (.agg (row .u8 32 (bhash len z)).toArray) ∧ Below w.heap.size w w'
def BMacOK : Prop := ∀ (kp : Option Addr) (kl kc : Nat), kl ≤ 140737488355072 → kl ≤ kc → (kp = none → kc = 0) → ∀ key : Nat → Int, In 256 kl key → ∀ (sp : Option Addr) (len cap : Nat), len ≤ 140737488354816 → len ≤ cap → (sp = none → cap = 0) → ∀ z : Nat → Int, In 256 len z → ∀ w : World, BGlob w → Src w kp kl key → Src w sp len z →
    Calls Tryd.prog 29 #[.slice kp kl kc, .slice sp len cap] w fun e w' => e = .returned (.agg (row .u8 32 (bmac kl key len z)).toArray) ∧ Below w.heap.size w w'
theorem of32_raw (B o l c : Nat) (hl : 4 ≤ l) (x0 x1 x2 x3 : Int) (h0 : 0 ≤ x0 ∧ x0 < 256) (h1 : 0 ≤ x1 ∧ x1 < 256) (h2 : 0 ≤ x2 ∧ x2 < 256) (h3 : 0 ≤ x3 ∧ x3 < 256) (w : World) (c0 : w.cell? ⟨B, o, none⟩ = some (.int .u8 x0)) (c1 : w.cell? ⟨B, o + 1, none⟩ = some (.int .u8 x1)) (c2 : w.cell? ⟨B, o + 2, none⟩ = some (.int .u8 x2)) (c3 : w.cell? ⟨B, o + 3, none⟩ = some (.int .u8 x3)) :
    Calls Tryd.prog 49 #[.slice (some ⟨B, o, none⟩) l c] w fun e w' => ∃ q, e = .returned (.int .u32 (x0 + x1 * 256 + x2 * 65536 + x3 * 16777216)) ∧ w' = w.drewN q := by
  have hg := glued32 x0 x1 x2 x3 h0 h1 h2 h3
  have HG := show Hid _ from hg
  have l0 : (0 : Int) < (l : Int) := by omega
  have l1 : (1 : Int) < (l : Int) := by omega
  have l2 : (2 : Int) < (l : Int) := by omega
  have l3 : (3 : Int) < (l : Int) := by omega
  clear hg h0 h1 h2 h3 hl
  go_enter Tryd.func49, Tryd.ntmps49
  go_wp2
  go_quiet (fail)
  go_wp2
  go_ret
  exact ⟨nq, by rw [HG.out]; rfl, rfl⟩
theorem of32_any (B o n l c : Nat) (a : Nat → Int) (hl : 4 ≤ l) (ho : o + 4 ≤ n) (ha : In 256 n a) (w : World) (h : Has w B .u8 n a) :
    Calls Tryd.prog 49 #[.slice (some ⟨B, o, none⟩) l c] w fun e w' => ∃ q, e = .returned (.int .u32 (w32 a o)) ∧ w' = w.drewN q :=
  of32_raw B o l c hl _ _ _ _ (ha o (by omega)) (ha (o + 1) (by omega)) (ha (o + 2) (by omega)) (ha (o + 3) (by omega)) w (h.cell o (by omega)) (h.cell (o + 1) (by omega)) (h.cell (o + 2) (by omega)) (h.cell (o + 3) (by omega))
theorem put32_raw (B o l c : Nat) (hl : 4 ≤ l) (x : Int) (y0 y1 y2 y3 : Int) (w : World) (c0 : w.cell? ⟨B, o, none⟩ = some (.int .u8 y0)) (f0 : w.frozen? ⟨B, o, none⟩ = false) (c1 : w.cell? ⟨B, o + 1, none⟩ = some (.int .u8 y1)) (f1 : w.frozen? ⟨B, o + 1, none⟩ = false) (c2 : w.cell? ⟨B, o + 2, none⟩ = some (.int .u8 y2)) (f2 : w.frozen? ⟨B, o + 2, none⟩ = false) (c3 : w.cell? ⟨B, o + 3, none⟩ = some (.int .u8 y3)) (f3 : w.frozen? ⟨B, o + 3, none⟩ = false) :
    Calls Tryd.prog 44 #[.slice (some ⟨B, o, none⟩) l c, .int .u32 x] w fun e w' => e = .returned (.tuple #[]) ∧ w' = ((((w.setCell ⟨B, o, none⟩ (.int .u8 (x % 256))).setCell ⟨B, o + 1, none⟩ (.int .u8 (x / 256 % 256))).setCell ⟨B, o + 2, none⟩ (.int .u8 (x / 65536 % 256))).setCell ⟨B, o + 3, none⟩ (.int .u8 (x / 16777216 % 256))) := by
  have l0 : (0 : Int) < (l : Int) := by omega
  have l1 : (1 : Int) < (l : Int) := by omega
  have l2 : (2 : Int) < (l : Int) := by omega
  have l3 : (3 : Int) < (l : Int) := by omega
  clear hl
  go_enter Tryd.func44, Tryd.ntmps44
  go_wp2
  go_end0
  exact ⟨rfl, rfl⟩
theorem put32_any (B o n l c : Nat) (hl : 4 ≤ l) (g : Nat → Int) (x : Int) (ho : o + 4 ≤ n) (w : World) (h : Has w B .u8 n g) :
    Calls Tryd.prog 44 #[.slice (some ⟨B, o, none⟩) l c, .int .u32 x] w fun e w' => e = .returned (.tuple #[]) ∧ w' = w.setCells B o (row .u8 4 (b32 x)) :=
  put32_raw B o l c hl x _ _ _ _ w (h.cell o (by omega)) (h.free o (by omega)) (h.cell (o + 1) (by omega)) (h.free (o + 1) (by omega)) (h.cell (o + 2) (by omega)) (h.free (o + 2) (by omega)) (h.cell (o + 3) (by omega)) (h.free (o + 3) (by omega))
theorem results_four {P : Program} {fn : Func} {tmps : Array Value} {w : World} {a b c d : Tmp} {u v x y : Value} (hr : fn.results = #[.tmp a, .tmp b, .tmp c, .tmp d])
    (ha : tmps.getD a undef = u) (hb : tmps.getD b undef = v) (hc : tmps.getD c undef = x) (hd : tmps.getD d undef = y) :
    (results fn tmps).run P w = .ok (.tuple #[u, v, x, y]) w := by
  rw [Array.getD_eq_getD_getElem?] at ha hb hc hd
  simp [results, hr, ha, hb, hc, hd]
theorem rotR_any (n : Int) (p : Nat) (hn : (n = -16 ∧ p = 16) ∨ (n = -12 ∧ p = 20) ∨ (n = -8 ∧ p = 24) ∨ (n = -7 ∧ p = 25)) (x : Int) (w : World) :
    Calls Tryd.prog 52 #[.int .u32 x, .int .i64 n] w fun e w' => e = .returned (.int .u32 (hrl p x)) ∧ w' = w := by
  rcases hn with ⟨rfl, rfl⟩ | ⟨rfl, rfl⟩ | ⟨rfl, rfl⟩ | ⟨rfl, rfl⟩
  · have hm : bits BinOp.and IntKind.u64 (IntKind.u64.wrap (-16)) 31 = 16 := by decide +kernel
    go_enter Tryd.func52, Tryd.ntmps52
    go_wp2
    go_ret
    exact ⟨rfl, rfl⟩
  · have hm : bits BinOp.and IntKind.u64 (IntKind.u64.wrap (-12)) 31 = 20 := by decide +kernel
    go_enter Tryd.func52, Tryd.ntmps52
    go_wp2
    go_ret
    exact ⟨rfl, rfl⟩
  · have hm : bits BinOp.and IntKind.u64 (IntKind.u64.wrap (-8)) 31 = 24 := by decide +kernel
    go_enter Tryd.func52, Tryd.ntmps52
    go_wp2
    go_ret
    exact ⟨rfl, rfl⟩
  · have hm : bits BinOp.and IntKind.u64 (IntKind.u64.wrap (-7)) 31 = 25 := by decide +kernel
    go_enter Tryd.func52, Tryd.ntmps52
    go_wp2
    go_ret
    exact ⟨rfl, rfl⟩
theorem bst_info (f : Nat → Int) : (Tryd.prog.info? 62).map (·.size) = some (row .u32 8 f).length := by rw [row_length]; kernel_rfl
theorem bst_info' (f : Nat → Int) : (Tryd.prog.info? 62).map (·.size) = some (row .u32 8 f).toArray.size := by rw [List.size_toArray]; exact bst_info f
theorem bst_there {w : World} {b : Nat} {f g : Nat → Int} (h : Has w b .u32 8 f) : w.there b 0 (row .u32 8 g).toArray.size := by rw [List.size_toArray, row_length]; exact h.there
theorem bst_zero (w : World) (t : TypeId) (b : Nat) (hb : b = w.heap.size) : Has (w.alloc (.cells zu32_8 t)) b .u32 8 (fun _ => 0) := Has.new w .u32 8 (fun _ => 0) t b hb
theorem bwd_info (f : Nat → Int) : (Tryd.prog.info? 70).map (·.size) = some (row .u32 16 f).length := by rw [row_length]; kernel_rfl
theorem bwd_info' (f : Nat → Int) : (Tryd.prog.info? 70).map (·.size) = some (row .u32 16 f).toArray.size := by rw [List.size_toArray]; exact bwd_info f
theorem bwd_zero (w : World) (t : TypeId) (b : Nat) (hb : b = w.heap.size) : Has (w.alloc (.cells zu32_16 t)) b .u32 16 (fun _ => 0) := Has.new w .u32 16 (fun _ => 0) t b hb
theorem bpc_zero (w : World) (t : TypeId) (b : Nat) (hb : b = w.heap.size) : Has (w.alloc (.cells zu8_64 t)) b .u8 64 (fun _ => 0) := Has.new w .u8 64 (fun _ => 0) t b hb
theorem ixS (b i : Nat) (hi : i < 8) (w : World) {o : Oper} {a : Act} (x y : Operand) (ho : o.op = .indexAddr 62 x y) (hx : a.eval x = .pointer (some ⟨b, 0, none⟩)) (hy : a.eval y = .int .i64 (i : Int)) :
    (execOp a.eval o).run Tryd.prog w = .ok (.value (.pointer (some ⟨b, i, none⟩))) w := by
  have h := idxArr (P := Tryd.prog) 62 60 8 .i64 b 0 i x y Tryd.underlying62 (fun _ => by kernel_rfl) hi ho hx hy w
  rw [Nat.zero_add] at h
  exact h
theorem ixW (b i : Nat) (hi : i < 16) (w : World) {o : Oper} {a : Act} (x y : Operand) (ho : o.op = .indexAddr 70 x y) (hx : a.eval x = .pointer (some ⟨b, 0, none⟩)) (hy : a.eval y = .int .i64 (i : Int)) :
    (execOp a.eval o).run Tryd.prog w = .ok (.value (.pointer (some ⟨b, i, none⟩))) w := by
  have h := idxArr (P := Tryd.prog) 70 60 16 .i64 b 0 i x y Tryd.underlying70 (fun _ => by kernel_rfl) hi ho hx hy w
  rw [Nat.zero_add] at h
  exact h
theorem ixWb (b i : Nat) (hi : i < 16) (w : World) {o : Oper} {a : Act} (x y : Operand) (ho : o.op = .indexAddr 70 x y) (hx : a.eval x = .pointer (some ⟨b, 0, none⟩)) (hy : a.eval y = .int .u8 (i : Int)) :
    (execOp a.eval o).run Tryd.prog w = .ok (.value (.pointer (some ⟨b, i, none⟩))) w := by
  have h := idxArr (P := Tryd.prog) 70 60 16 .u8 b 0 i x y Tryd.underlying70 (fun _ => by kernel_rfl) hi ho hx hy w
  rw [Nat.zero_add] at h
  exact h
theorem ixV (b i : Nat) (hi : i < 8) (w : World) {o : Oper} {a : Act} (x y : Operand) (ho : o.op = .indexAddr 61 x y) (hx : a.eval x = .pointer (some ⟨b, 0, none⟩)) (hy : a.eval y = .int .i64 (i : Int)) :
    (execOp a.eval o).run Tryd.prog w = .ok (.value (.pointer (some ⟨b, i, none⟩))) w := by
  have h := idxArr (P := Tryd.prog) 61 60 8 .i64 b 0 i x y Tryd.underlying61 (fun _ => by kernel_rfl) hi ho hx hy w
  rw [Nat.zero_add] at h
  exact h
theorem bcut_64 (b k : Nat) (hk : k < 16) (w : World) : (Instr.sliceAt 84 (.pointer (some ⟨b, 0, none⟩)) (some (.int .i64 (4 * (k : Int)))) none none).run Tryd.prog w = .ok (.slice (some ⟨b, 4 * k, none⟩) (64 - 4 * k) (64 - 4 * k)) w := by
  have hl : Tryd.prog.arrayLen 84 = 64 := by kernel_rfl
  have hs : ∀ w, (sizeOf (Tryd.prog.elem 84)).run Tryd.prog w = .ok 1 w := fun w => by kernel_rfl
  rw [run_sliceAt_array_l w 84 ⟨b, 0, none⟩ (by kernel_rfl) .i64 _ (by omega) (by rw [hl]; omega), hs, hl]
  simp only [Result.andThen, slicedAt]
  have e1 : (4 * (k : Int)).toNat = 4 * k := by omega
  rw [e1, if_neg (by omega), Addr.add_mid, Nat.zero_add, Nat.mul_one]
theorem bcut_key (b k : Nat) (hk : k < 8) (w : World) : (Instr.sliceAt 23 (.pointer (some ⟨b, 0, none⟩)) (some (.int .i64 (4 * (k : Int)))) none none).run Tryd.prog w = .ok (.slice (some ⟨b, 4 * k, none⟩) (32 - 4 * k) (32 - 4 * k)) w := by
  have hl : Tryd.prog.arrayLen 23 = 32 := by kernel_rfl
  have hs : ∀ w, (sizeOf (Tryd.prog.elem 23)).run Tryd.prog w = .ok 1 w := fun w => by kernel_rfl
  rw [run_sliceAt_array_l w 23 ⟨b, 0, none⟩ (by kernel_rfl) .i64 _ (by omega) (by rw [hl]; omega), hs, hl]
  simp only [Result.andThen, slicedAt]
  have e1 : (4 * (k : Int)).toNat = 4 * k := by omega
  rw [e1, if_neg (by omega), Addr.add_mid, Nat.zero_add, Nat.mul_one]
theorem hxr_assoc (a b c : Int) (ha : 0 ≤ a ∧ a < V) (hb : 0 ≤ b ∧ b < V) (hc : 0 ≤ c ∧ c < V) : hxr (hxr a b) c = hxr a (hxr b c) := by
  obtain ⟨a, rfl⟩ := Int.eq_ofNat_of_zero_le ha.1
  obtain ⟨b, rfl⟩ := Int.eq_ofNat_of_zero_le hb.1
  obtain ⟨c, rfl⟩ := Int.eq_ofNat_of_zero_le hc.1
  have a2 := ha.2
  have b2 := hb.2
  have c2 := hc.2
  simp only [V] at a2 b2 c2
  have h1 : a ^^^ b < 2 ^ 32 := Nat.xor_lt_two_pow (by omega) (by omega)
  have h2 : b ^^^ c < 2 ^ 32 := Nat.xor_lt_two_pow (by omega) (by omega)
  unfold hxr
  rw [u32_xor_nat a b (by omega) (by omega), u32_xor_nat b c (by omega) (by omega), u32_xor_nat _ c (by omega) (by omega), u32_xor_nat a _ (by omega) (by omega), Nat.xor_assoc]
theorem bload_any (sp : Option Addr) (len cap : Nat) (hlen : len ≤ 64) (z : Nat → Int) (hz : In 256 len z) (w : World) (hs : Src w sp len z) :
    Calls Tryd.prog 43 #[.slice sp len cap] w fun e w' => e = .returned (.agg (row .u32 16 (bpw (padz len z))).toArray) ∧ Below w.heap.size w w' := by
  have K := Kr.init w
  replace K := K.make 16 zu32_16 70 (w.heap.size) rfl (bwd_zero _ _ _ rfl).there
  replace K := K.boxO .u8 64 (fun _ => 0) (.cells zu8_64 84) (w.heap.size + 1) (by simp) (bpc_zero _ _ _ (by simp))
  go_enter Tryd.func43, Tryd.ntmps43
  go_upto_region 2 with fail
  generalize ((w.alloc (.cells zu32_16 70)).alloc (.cells zu8_64 84)) = w0 at K ⊢
  have HR := K.get _ _ _ _ mS
  replace K := K.loose [] (w.heap.size + 1) .u8 64 (fun _ => 0) mS (fun _ hp => by cases hp) (fun _ hp => by cases hp) (by omega)
  refine wp_region_list ?_
  refine pureL (.slice (some ⟨w.heap.size + 1, 0, none⟩) 64 64) rfl (fun _ => by kernel_rfl) ?_
  simp only [aP, lI, l0, lS]
  refine pureL (.slice sp len cap) rfl (fun _ => by kernel_rfl) ?_
  simp only [aP, lI, l0, lS]
  refine actL (.int .i64 (len : Int)) rfl (run_copy_src _ _ 51 51 5 rfl Tryd.underlying51 (by kernel_rfl) (w.heap.size + 1) 64 64 len cap 64 sp z rfl rfl hlen hlen HR.there (hs.below K.below (Nat.le_refl _))) ?_
  simp only [aP, lI, l0, lS]
  replace K := K.fill (w.heap.size + 1) 64 mS (row .u8 len z)
  replace HR := (HR.part 0 len (by omega) z).congr (g := padz len z) (fun j hj => by
    unfold over padz
    by_cases e : j < len
    · rw [if_pos (by omega), if_pos e, Nat.sub_zero]
    · rw [if_neg (by omega), if_neg e])
  replace K := K.settle [(w.heap.size, 16)] (w.heap.size + 1) .u8 64 (padz len z) mS (fun q hq => mT _ hq) (fun q hq => by obtain rfl := List.mem_singleton.1 hq; simp only; omega) HR
  generalize w0.setCells (w.heap.size + 1) 0 (row .u8 len z) = w1 at K ⊢
  clear HR w0 hs
  show Exit.then _ _ _ _ _
  go_upto_region 3 with fail
  have zX := K.size
  replace K := K.boxO .u32 16 (fun _ => 0) (.cells zu32_16 70) w1.heap.size rfl (bwd_zero _ _ _ rfl)
  go_upto_region 4 with fail
  generalize hw : w1.alloc (.cells zu32_16 70) = w2 at K ⊢
  clear hw
  generalize w1.heap.size = X at *
  have hp := padz_in len z hz 64
  generalize hpp : padz len z = p at *
  go_wp2
  go_loopw [9] (fun i w' => ∃ (n : Nat) (f : Nat → Int), n ≤ 16 ∧ i = .int .i64 n ∧ Kr w (X + 1) [(X, .u32, 16, f), (w.heap.size + 1, .u8, 64, p)] [(w.heap.size, 16)] w' ∧ ∀ j, j < n → f j = bpw p j) (fun i _ => 16 - (intOf i).toNat)
  case atStart => exact ⟨0, _, by omega, rfl, K, fun j hj => by omega⟩
  case round =>
    clear K
    obtain ⟨n, f, hn, rfl, K, hd⟩ := hrel
    have g1 : (0 : Int) ≤ (n : Int) := by omega
    by_cases hlt : n < 16
    · have g2 : (n : Int) < 16 := by omega
      go_upto_region 7 with fail
      refine wp_region_list ?_
      refine pureL (.int .i64 (n : Int)) rfl (fun _ => by kernel_rfl) ?_
      simp only [aP, lI, l0, lS]
      refine pureL (.int .i64 (n : Int)) rfl (fun _ => by kernel_rfl) ?_
      simp only [aP, lI, l0, lS]
      refine pureL (.int .i64 (4 * (n : Int))) rfl (fun w => mulI .i64 4 (n : Int) _ _ _ _ _ rfl rfl rfl (by rw [IntKind.wrap_i64]; omega) w) ?_
      simp only [aP, lI, l0, lS]
      refine pureL (.slice (some ⟨w.heap.size + 1, 4 * n, none⟩) (64 - 4 * n) (64 - 4 * n)) rfl (fun w' => cutOp _ _ _ _ _ _ rfl rfl rfl (bcut_64 (w.heap.size + 1) n hlt w')) ?_
      simp only [aP, lI, l0, lS]
      refine callL rfl (fun _ => by kernel_rfl) (of32_any (w.heap.size + 1) (4 * n) 64 (64 - 4 * n) (64 - 4 * n) p (by omega) (by omega) hp _ (K.get _ _ _ _ (mT _ mS))) ?_
      rintro e w3 ⟨q, rfl, rfl⟩
      replace K := K.drewN (q := q)
      refine ⟨_, rfl, ?_⟩
      simp only [aP, lI, l0, lS]
      refine pureL (.pointer (some ⟨X, n, none⟩)) rfl (fun w' => ixW X n hlt w' _ _ rfl rfl rfl) ?_
      simp only [aP, lI, l0, lS]
      refine storeL .u32 (w32 p (4 * n)) X n 60 _ _ rfl rfl rfl rfl (by rw [(K.get _ _ _ _ mS).cell n hlt]; rfl) ((K.get _ _ _ _ mS).free n hlt) (by kernel_rfl) ?_
      simp only [Act.put]
      replace K := K.setCell [(w.heap.size + 1, .u8, 64, p)] X .u32 16 f n hlt (w32 p (4 * n)) mS (fun p hp => by obtain rfl := List.mem_singleton.1 hp; exact (mT _ mS)) (fun p hp => by obtain rfl := List.mem_singleton.1 hp; simp only; omega) (by omega)
      have HS := show Hid _ from (And.intro K (show ∀ j, j < n + 1 → upd f n (w32 p (4 * n)) j = bpw p j from fun j hj => by
        by_cases e : j = n
        · subst e; rw [upd_same]; rfl
        · rw [upd_other _ _ _ _ e]; exact hd j (by omega)))
      clear K hd
      generalize (wr.drewN q).setCell ⟨X, n, none⟩ (.int .u32 (w32 p (4 * n))) = w4 at HS ⊢
      generalize upd f n (w32 p (4 * n)) = f' at HS
      show Exit.inBlock _ _ _ _ _
      go_wp2
      go_roundw
      case rel => first | exact ⟨n + 1, f', by omega, by go_num, HS.out⟩ | ((repeat apply Exists.intro); refine ⟨⟨n + 1, f', by omega, by go_num, HS.out⟩, rfl⟩)
      case measure => simp [intOf]; omega
    · obtain rfl : n = 16 := by omega
      have HR := (K.get _ _ _ _ mS).congr (g := bpw p) (fun j hj => hd j hj)
      have hz' := (K.room _ mS).1
      have hB := (K.fill _ _ mS (row .u32 16 (bpw p))).below
      clear K hd hlt hn g1
      generalize hf : bpw p = g at *
      go_wp2_with (first | (refine wpList_load_mid rfl 70 _ rfl (X) 0 rfl (row .u32 16 (g)) _ (Has.range (HR)) Tryd.underlying70 rfl (bwd_info _) ?_) | (refine wpList_store_mid rfl 70 _ _ rfl (w.heap.size) 0 (row .u32 16 g).toArray rfl rfl (room_of hz') (bwd_info' _) (all_oneCell_toArray (row_one _ _ _)) ?_))
      exact bodyPost_ret (v := (.agg (row .u32 16 (g)).toArray)) (results_row Tryd.results43 rfl (Has.all hz' .u32 g).range Tryd.underlying70 rfl (bwd_info g)) rfl ⟨by rw [← hf, ← hpp], hB⟩
theorem bbegin_any (kl size : Nat) (hk : kl ≤ 32) (hz : size ≤ 32) (w : World) (hg : BGlob w) :
    Calls Tryd.prog 38 #[.int .i64 (kl : Int), .int .i64 (size : Int)] w fun e w' => e = .returned (.agg (row .u32 8 (bh0 kl size)).toArray) ∧ Below w.heap.size w w' := by
  have K := Kr.init w
  replace K := K.make 8 zu32_8 62 (w.heap.size) rfl (bst_zero _ _ _ rfl).there
  replace K := K.boxO .u32 8 (fun _ => 0) (.cells zu32_8 62) (w.heap.size + 1) (by simp) (bst_zero _ _ _ (by simp))
  go_enter Tryd.func38, Tryd.ntmps38
  go_upto_region 2 with fail
  generalize ((w.alloc (.cells zu32_8 62)).alloc (.cells zu32_8 62)) = w0 at K ⊢
  go_wp2
  go_loopw [7] (fun i w' => ∃ (n : Nat) (f : Nat → Int), n ≤ 8 ∧ i = .int .i64 n ∧ Kr w (w.heap.size + 1 + 1) [(w.heap.size + 1, .u32, 8, f)] [(w.heap.size, 8)] w' ∧ ∀ j, j < n → f j = iv j) (fun i _ => 8 - (intOf i).toNat)
  case atStart => exact ⟨0, _, by omega, rfl, K, fun j hj => by omega⟩
  case round =>
    clear K
    obtain ⟨n, f, hn, rfl, K, hd⟩ := hrel
    have g1 : (0 : Int) ≤ (n : Int) := by omega
    by_cases hlt : n < 8
    · have g2 : (n : Int) < 8 := by omega
      go_upto_region 5 with fail
      refine wp_region_list ?_
      refine pureL (.int .i64 (n : Int)) rfl (fun _ => by kernel_rfl) ?_
      simp only [aP, lI, l0, lS]
      refine pureL (.int .i64 (n : Int)) rfl (fun _ => by kernel_rfl) ?_
      simp only [aP, lI, l0, lS]
      refine pureL (.pointer (some ⟨0, n, none⟩)) rfl (fun w' => ixV 0 n hlt w' _ _ rfl rfl rfl) ?_
      simp only [aP, lI, l0, lS]
      refine cellL .u32 (.int .u32 (iv n)) 0 n 60 _ rfl rfl rfl Tryd.underlying60 ((hg.below K.below hg.size).first n hlt) ?_
      simp only [aP, lI, l0, lS]
      refine pureL (.pointer (some ⟨w.heap.size + 1, n, none⟩)) rfl (fun w' => ixS (w.heap.size + 1) n hlt w' _ _ rfl rfl rfl) ?_
      simp only [aP, lI, l0, lS]
      refine storeL .u32 (iv n) (w.heap.size + 1) n 60 _ _ rfl rfl rfl rfl (by rw [(K.get _ _ _ _ mS).cell n hlt]; rfl) ((K.get _ _ _ _ mS).free n hlt) (by kernel_rfl) ?_
      simp only [Act.put]
      replace K := K.setCell [] (w.heap.size + 1) .u32 8 f n hlt (iv n) mS (fun _ hp => by cases hp) (fun _ hp => by cases hp) (by omega)
      have HS := show Hid _ from (And.intro K (show ∀ j, j < n + 1 → upd f n (iv n) j = iv j from fun j hj => by
        by_cases e : j = n
        · subst e; rw [upd_same]
        · rw [upd_other _ _ _ _ e]; exact hd j (by omega)))
      clear K hd
      generalize wr.setCell ⟨w.heap.size + 1, n, none⟩ (.int .u32 (iv n)) = w4 at HS ⊢
      generalize upd f n (iv n) = f' at HS
      show Exit.inBlock _ _ _ _ _
      go_wp2
      go_roundw
      case rel => first | exact ⟨n + 1, f', by omega, by go_num, HS.out⟩ | ((repeat apply Exists.intro); refine ⟨⟨n + 1, f', by omega, by go_num, HS.out⟩, rfl⟩)
      case measure => simp [intOf]; omega
    · obtain rfl : n = 8 := by omega
      have i0 := iv_in 0 (by omega)
      have i1 : 0 ≤ (16842752 : Int) ∧ (16842752 : Int) < V := by decide
      have i2 : 0 ≤ 256 * (kl : Int) ∧ 256 * (kl : Int) < V := by simp only [V]; omega
      have i3 : 0 ≤ (size : Int) ∧ (size : Int) < V := by simp only [V]; omega
      have HX : hxr (f 0) (hxr (hxr 16842752 (256 * (kl : Int))) (size : Int)) = hxr (hxr (hxr (iv 0) 16842752) (256 * (kl : Int))) (size : Int) := by
        rw [hd 0 (by omega), hxr_assoc (hxr (iv 0) 16842752) _ _ (hxr_in _ _ i0 i1) i2 i3, hxr_assoc (iv 0) _ _ i0 i1 (hxr_in _ _ i2 i3), hxr_assoc 16842752 _ _ i1 i2 i3]
      go_upto_region 7 with fail
      refine wp_region_list ?_
      refine pureL (.pointer (some ⟨w.heap.size + 1, 0, none⟩)) rfl (fun w' => ixS (w.heap.size + 1) 0 (by decide) w' _ _ rfl rfl rfl) ?_
      simp only [aP, lI, l0, lS]
      refine cellL .u32 (.int .u32 (f 0)) (w.heap.size + 1) 0 60 _ rfl rfl rfl Tryd.underlying60 ((K.get _ _ _ _ mS).cell 0 (by decide)) ?_
      simp only [aP, lI, l0, lS]
      refine pureL (.int .i64 (kl : Int)) rfl (fun _ => by kernel_rfl) ?_
      simp only [aP, lI, l0, lS]
      refine pureL (.int .u32 (kl : Int)) rfl (fun w => convI .i64 .u32 _ _ _ _ _ rfl (by kernel_rfl) Tryd.underlying60 (by kernel_rfl) rfl (by rw [IntKind.wrap_u32']; omega) w) ?_
      simp only [aP, lI, l0, lS]
      refine pureL (.int .u32 (256 * (kl : Int))) rfl (fun w => bshlI .u32 .u64 _ 8 _ _ _ _ _ rfl rfl rfl (by decide) (by rw [IntKind.wrap_u32', show (2 : Int) ^ min (8 : Int).toNat IntKind.u32.bits = 256 from by decide]; omega) w) ?_
      simp only [aP, lI, l0, lS]
      refine pureL (.int .u32 (hxr 16842752 (256 * (kl : Int)))) rfl (fun w => xorI .u32 _ _ _ _ _ _ _ rfl rfl rfl rfl w) ?_
      simp only [aP, lI, l0, lS]
      refine pureL (.int .i64 (size : Int)) rfl (fun _ => by kernel_rfl) ?_
      simp only [aP, lI, l0, lS]
      refine pureL (.int .u32 (size : Int)) rfl (fun w => convI .i64 .u32 _ _ _ _ _ rfl (by kernel_rfl) Tryd.underlying60 (by kernel_rfl) rfl (by rw [IntKind.wrap_u32']; omega) w) ?_
      simp only [aP, lI, l0, lS]
      refine pureL (.int .u32 (hxr (hxr 16842752 (256 * (kl : Int))) (size : Int))) rfl (fun w => xorI .u32 _ _ _ _ _ _ _ rfl rfl rfl rfl w) ?_
      simp only [aP, lI, l0, lS]
      refine pureL (.int .u32 (hxr (hxr (hxr (iv 0) 16842752) (256 * (kl : Int))) (size : Int))) rfl (fun w => xorI .u32 _ _ _ _ _ _ _ rfl rfl rfl HX w) ?_
      simp only [aP, lI, l0, lS]
      refine pureL (.pointer (some ⟨w.heap.size + 1, 0, none⟩)) rfl (fun w' => ixS (w.heap.size + 1) 0 (by decide) w' _ _ rfl rfl rfl) ?_
      simp only [aP, lI, l0, lS]
      refine storeL .u32 (hxr (hxr (hxr (iv 0) 16842752) (256 * (kl : Int))) (size : Int)) (w.heap.size + 1) 0 60 _ _ rfl rfl rfl rfl (by rw [(K.get _ _ _ _ mS).cell 0 (by decide)]; rfl) ((K.get _ _ _ _ mS).free 0 (by decide)) (by kernel_rfl) ?_
      simp only [Act.put]
      replace K := K.setCell [] (w.heap.size + 1) .u32 8 f 0 (by decide) (hxr (hxr (hxr (iv 0) 16842752) (256 * (kl : Int))) (size : Int)) mS (fun _ hp => by cases hp) (fun _ hp => by cases hp) (by omega)
      have HR := (K.get _ _ _ _ mS).congr (g := bh0 kl size) (fun j hj => by
        unfold bh0
        by_cases e : j = 0
        · subst e; rw [upd_same, upd_same]
        · rw [upd_other _ _ _ _ e, upd_other _ _ _ _ e]; exact hd j hj)
      generalize wr.setCell ⟨w.heap.size + 1, 0, none⟩ (.int .u32 (hxr (hxr (hxr (iv 0) 16842752) (256 * (kl : Int))) (size : Int))) = w5 at K HR ⊢
      have hz' := (K.room _ mS).1
      have hB := (K.fill _ _ mS (row .u32 8 (bh0 kl size))).below
      clear K hd hlt hn g1 HX
      generalize hf : bh0 kl size = g at *
      show Exit.then _ _ _ _ _
      go_wp2_with (first | (refine wpList_load_mid rfl 62 _ rfl (w.heap.size + 1) 0 rfl (row .u32 8 (g)) _ (Has.range (HR)) Tryd.underlying62 rfl (bst_info _) ?_) | (refine wpList_store_mid rfl 62 _ _ rfl (w.heap.size) 0 (row .u32 8 g).toArray rfl rfl (room_of hz') (bst_info' _) (all_oneCell_toArray (row_one _ _ _)) ?_))
      exact bodyPost_ret (v := (.agg (row .u32 8 (g)).toArray)) (results_row Tryd.results38 rfl (Has.all hz' .u32 g).range Tryd.underlying62 rfl (bst_info g)) rfl ⟨rfl, hB⟩
theorem bout_over {h : Nat → Int} {n : Nat} {g : Nat → Int} (hd : ∀ j, j < 4 * n → g j = bout h j) (j : Nat) (hj : j < 4 * (n + 1)) : over g (4 * n) 4 (b32 (h n)) j = bout h j := by
  unfold over
  by_cases e : 4 * n ≤ j ∧ j < 4 * n + 4
  · rw [if_pos e]
    unfold bout
    rw [show j / 4 = n by omega, show j % 4 = j - 4 * n by omega]
  · rw [if_neg e]; exact hd j (by omega)
theorem bbytes_any (h : Nat → Int) (w : World) :
    Calls Tryd.prog 39 #[(.agg (row .u32 8 (h)).toArray)] w fun e w' => e = .returned (.agg (row .u8 32 (bout h)).toArray) ∧ Below w.heap.size w w' := by
  have K := Kr.init w
  replace K := K.box .u32 8 h 62 (w.heap.size) rfl
  replace K := K.make 32 zu8_32 23 (w.heap.size + 1) (by simp) (key_zero _ _ _ (by simp)).there
  replace K := K.make 32 zu8_32 23 (w.heap.size + 1 + 1) (by simp) (key_zero _ _ _ (by simp)).there
  have H := key_zero ((w.alloc (.cells (row .u32 8 h).toArray 62)).alloc (.cells zu8_32 23)) 23 (w.heap.size + 1 + 1) (by simp)
  go_enter Tryd.func39, Tryd.ntmps39
  go_upto_region 2 with fail
  generalize (((w.alloc (.cells (row .u32 8 h).toArray 62)).alloc (.cells zu8_32 23)).alloc (.cells zu8_32 23)) = w0 at K H ⊢
  go_wp2
  go_loopw [5] (fun i w' => ∃ (n : Nat) (g : Nat → Int), n ≤ 8 ∧ i = .int .i64 n ∧ Kr w (w.heap.size + 1 + 1 + 1) [(w.heap.size, .u32, 8, h)] [(w.heap.size + 1 + 1, 32), (w.heap.size + 1, 32)] w' ∧ Has w' (w.heap.size + 1 + 1) .u8 32 g ∧ ∀ j, j < 4 * n → g j = bout h j) (fun i _ => 8 - (intOf i).toNat)
  case atStart => exact ⟨0, _, by omega, rfl, K, H, fun j hj => by omega⟩
  case round =>
    clear K H
    obtain ⟨n, g, hn, rfl, K, H, hd⟩ := hrel
    have g1 : (0 : Int) ≤ (n : Int) := by omega
    by_cases hlt : n < 8
    · have g2 : (n : Int) < 8 := by omega
      have HD := show Hid _ from fun j hj => bout_over hd j hj
      clear hd
      go_upto_region 5 with fail
      refine wp_region_held_drew (S := fun w' => Kr w (w.heap.size + 1 + 1 + 1) [(w.heap.size, .u32, 8, h)] [(w.heap.size + 1 + 1, 32), (w.heap.size + 1, 32)] w') (by kernel_rfl) K.drew ?_
      clear K
      intro K
      replace H := H.drew
      refine pureHg (i := 0) (some 8) rfl (.int .i64 (n : Int)) rfl rfl (fun _ => by kernel_rfl) K ?_
      simp only [aP, lI, l0, lS]
      refine pureHg (i := 1) (some 9) rfl (.int .i64 (4 * (n : Int))) rfl rfl (fun w => mulI .i64 4 (n : Int) _ _ _ _ _ rfl rfl rfl (by rw [IntKind.wrap_i64]; omega) w) K ?_
      simp only [aP, lI, l0, lS]
      refine pureHg (i := 2) (some 10) rfl (.slice (some ⟨w.heap.size + 1 + 1, 4 * n, none⟩) (32 - 4 * n) (32 - 4 * n)) rfl rfl (fun w' => cutOp _ _ _ _ _ _ rfl rfl rfl (bcut_key (w.heap.size + 1 + 1) n hlt w')) K ?_
      simp only [aP, lI, l0, lS]
      refine pureHg (i := 3) (some 11) rfl (.int .i64 (n : Int)) rfl rfl (fun _ => by kernel_rfl) K ?_
      simp only [aP, lI, l0, lS]
      refine pureHg (i := 4) (some 12) rfl (.pointer (some ⟨w.heap.size, n, none⟩)) rfl rfl (fun w' => ixS (w.heap.size) n hlt w' _ _ rfl rfl rfl) K ?_
      simp only [aP, lI, l0, lS]
      refine cellH (i := 5) (some 13) rfl .u32 (.int .u32 (h n)) (w.heap.size) n 60 _ rfl rfl rfl rfl (by kernel_rfl) (by kernel_rfl) (by kernel_rfl) (fun _ _ _ h => h) Tryd.underlying60 K (fun _ h => (h.get _ _ _ _ mS).cell n hlt) ?_
      simp only [aP, lI, l0, lS]
      refine callH (i := 6) (some 14) rfl (by kernel_rfl) rfl rfl (fun _ => by kernel_rfl) (put32_any (w.heap.size + 1 + 1) (4 * n) 32 (32 - 4 * n) (32 - 4 * n) (by omega) g (h n) (by omega) _ H) ?_
      rintro e w' ⟨rfl, rfl⟩
      replace K := K.poke (w.heap.size + 1 + 1) 32 mS (4 * n) (row .u8 4 (b32 (h n)))
      replace H := H.part (4 * n) 4 (by omega) (b32 (h n))
      refine ⟨_, rfl, K, ?_⟩
      simp only [aP, lI, l0, lS]
      refine wpAnyH_done (by kernel_rfl) ?_ _
      have HS := show Hid _ from (And.intro K (And.intro H HD.out))
      clear K H HD
      generalize (wr.drew.setCells (w.heap.size + 1 + 1) (4 * n) (row .u8 4 (b32 (h n)))) = w6 at *
      go_wp2
      go_roundw
      case rel => first | exact ⟨n + 1, _, by omega, by go_num, HS.out⟩ | ((repeat apply Exists.intro); refine ⟨⟨n + 1, _, by omega, by go_num, HS.out⟩, rfl⟩)
      case measure => simp [intOf]; omega
    · obtain rfl : n = 8 := by omega
      have h1 := H.congr (g := bout h) (fun j hj => hd j (by omega))
      have hz := (K.room _ (mT _ mS)).1
      have hB := (K.fill _ _ (mT _ mS) (row .u8 32 (bout h))).below
      clear K H hd hlt hn g1
      generalize hf : bout h = f at *
      go_wp2_with (first | (refine wpList_load_mid rfl 23 _ rfl (w.heap.size + 1 + 1) 0 rfl (row .u8 32 (f)) _ (Has.range (h1)) Tryd.underlying23 rfl (key_info _) ?_) | (refine wpList_store_mid rfl 23 _ _ rfl (w.heap.size + 1) 0 (row .u8 32 f).toArray rfl rfl (room_of hz) (key_info' _) (all_oneCell_toArray (row_one _ _ _)) ?_))
      exact bodyPost_ret (v := (.agg (row .u8 32 (f)).toArray)) (results_row Tryd.results39 rfl (Has.all hz .u8 _).range Tryd.underlying23 rfl (key_info _)) rfl ⟨rfl, hB⟩
theorem bspread_any (h : Nat → Int) (t : Int) (last : Bool) (w : World) (hg : BGlob w) :
    Calls Tryd.prog 47 #[(.agg (row .u32 8 (h)).toArray), .int .u64 t, .bool last] w fun e w' => e = .returned (.agg (row .u32 16 (bst h t last)).toArray) ∧ Below w.heap.size w w' := by
  have K := Kr.init w
  replace K := K.box .u32 8 h 62 (w.heap.size) rfl
  replace K := K.make 16 zu32_16 70 (w.heap.size + 1) (by simp) (bwd_zero _ _ _ (by simp)).there
  replace K := K.boxO .u32 16 (fun _ => 0) (.cells zu32_16 70) (w.heap.size + 1 + 1) (by simp) (bwd_zero _ _ _ (by simp))
  go_enter Tryd.func47, Tryd.ntmps47
  go_upto_region 2 with fail
  generalize (((w.alloc (.cells (row .u32 8 h).toArray 62)).alloc (.cells zu32_16 70)).alloc (.cells zu32_16 70)) = w0 at K ⊢
  go_wp2
  go_loopw [9] (fun i w' => ∃ (n : Nat) (f : Nat → Int), n ≤ 8 ∧ i = .int .i64 n ∧ Kr w (w.heap.size + 1 + 1 + 1) [(w.heap.size + 1 + 1, .u32, 16, f), (w.heap.size, .u32, 8, h)] [(w.heap.size + 1, 16)] w' ∧ ∀ j, j < n → f j = h j ∧ f (j + 8) = iv j) (fun i _ => 8 - (intOf i).toNat)
  case atStart => exact ⟨0, _, by omega, rfl, K, fun j hj => by omega⟩
  case round =>
    clear K
    obtain ⟨n, f, hn, rfl, K, hd⟩ := hrel
    have g1 : (0 : Int) ≤ (n : Int) := by omega
    by_cases hlt : n < 8
    · have g2 : (n : Int) < 8 := by omega
      have l8 : n < 16 := by omega
      have l88 : n + 8 < 16 := by omega
      go_upto_region 5 with fail
      have HR := (K.get _ _ _ _ mS).drew
      replace K := K.loose [(w.heap.size, .u32, 8, h)] (w.heap.size + 1 + 1) .u32 16 f mS (fun p hp => by obtain rfl := List.mem_singleton.1 hp; exact (mT _ mS)) (fun p hp => by obtain rfl := List.mem_singleton.1 hp; simp only; omega) (by omega)
      refine wp_region_held_drew (S := fun w' => Kr w (w.heap.size + 1 + 1 + 1) [(w.heap.size, .u32, 8, h)] [(w.heap.size + 1 + 1, 16), (w.heap.size + 1, 16)] w') (by kernel_rfl) K.drew ?_
      clear K
      intro K
      generalize wr.drew = w1 at K HR ⊢
      refine pureHg (i := 0) (some 12) rfl (.int .i64 (n : Int)) rfl rfl (fun _ => by kernel_rfl) K ?_
      simp only [aP, lI, l0, lS]
      refine pureHg (i := 1) (some 13) rfl (.int .i64 (n : Int)) rfl rfl (fun _ => by kernel_rfl) K ?_
      simp only [aP, lI, l0, lS]
      refine pureHg (i := 2) (some 14) rfl (.int .i64 ((n + 8 : Nat) : Int)) rfl rfl (fun w => addI .i64 _ _ _ _ _ _ _ rfl rfl rfl (by rw [IntKind.wrap_i64]; omega) w) K ?_
      simp only [aP, lI, l0, lS]
      refine pureHg (i := 3) (some 15) rfl (.int .i64 (n : Int)) rfl rfl (fun _ => by kernel_rfl) K ?_
      simp only [aP, lI, l0, lS]
      refine pureHg (i := 4) (some 16) rfl (.pointer (some ⟨w.heap.size, n, none⟩)) rfl rfl (fun w' => ixS (w.heap.size) n hlt w' _ _ rfl rfl rfl) K ?_
      simp only [aP, lI, l0, lS]
      refine cellH (i := 5) (some 17) rfl .u32 (.int .u32 (h n)) (w.heap.size) n 60 _ rfl rfl rfl rfl (by kernel_rfl) (by kernel_rfl) (by kernel_rfl) (fun _ _ _ h => h) Tryd.underlying60 K (fun _ h => (h.get _ _ _ _ mS).cell n hlt) ?_
      simp only [aP, lI, l0, lS]
      refine pureHg (i := 6) (some 18) rfl (.int .i64 (n : Int)) rfl rfl (fun _ => by kernel_rfl) K ?_
      simp only [aP, lI, l0, lS]
      refine pureHg (i := 7) (some 19) rfl (.pointer (some ⟨0, n, none⟩)) rfl rfl (fun w' => ixV 0 n hlt w' _ _ rfl rfl rfl) K ?_
      simp only [aP, lI, l0, lS]
      refine cellH (i := 8) (some 20) rfl .u32 (.int .u32 (iv n)) 0 n 60 _ rfl rfl rfl rfl (by kernel_rfl) (by kernel_rfl) (by kernel_rfl) (fun _ _ _ h => h) Tryd.underlying60 K (fun _ h => (hg.below h.below hg.size).first n hlt) ?_
      simp only [aP, lI, l0, lS]
      refine pureHg (i := 9) (some 21) rfl (.pointer (some ⟨w.heap.size + 1 + 1, n, none⟩)) rfl rfl (fun w' => ixW (w.heap.size + 1 + 1) (n) l8 w' _ _ rfl rfl rfl) K ?_
      simp only [aP, lI, l0, lS]
      refine storeH (i := 10) none rfl .u32 (h n) (w.heap.size + 1 + 1) (n) 60 _ _ (by kernel_rfl) rfl rfl rfl rfl rfl (by rw [HR.cell (n) l8]; rfl) (HR.free (n) l8) (by kernel_rfl) (K.poke (w.heap.size + 1 + 1) 16 mS (n) [.int .u32 (h n)]) ?_
      simp only [Act.put]
      replace K := K.poke (w.heap.size + 1 + 1) 16 mS (n) [.int .u32 (h n)]
      replace HR := HR.set (n) l8 (h n)
      refine pureHg (i := 11) (some 22) rfl (.pointer (some ⟨w.heap.size + 1 + 1, n + 8, none⟩)) rfl rfl (fun w' => ixW (w.heap.size + 1 + 1) (n + 8) l88 w' _ _ rfl rfl rfl) K ?_
      simp only [aP, lI, l0, lS]
      refine storeH (i := 12) none rfl .u32 (iv n) (w.heap.size + 1 + 1) (n + 8) 60 _ _ (by kernel_rfl) rfl rfl rfl rfl rfl (by rw [HR.cell (n + 8) l88]; rfl) (HR.free (n + 8) l88) (by kernel_rfl) (K.poke (w.heap.size + 1 + 1) 16 mS (n + 8) [.int .u32 (iv n)]) ?_
      simp only [Act.put]
      replace K := K.poke (w.heap.size + 1 + 1) 16 mS (n + 8) [.int .u32 (iv n)]
      replace HR := HR.set (n + 8) l88 (iv n)
      refine wpAnyH_done (by kernel_rfl) ?_ _
      replace K := K.settle [(w.heap.size + 1, 16)] (w.heap.size + 1 + 1) .u32 16 (upd (upd f n (h n)) (n + 8) (iv n)) mS (fun q hq => mT _ hq) (fun q hq => by obtain rfl := List.mem_singleton.1 hq; simp only; omega) HR
      have HS := show Hid _ from (And.intro K (show ∀ j, j < n + 1 → (upd (upd f n (h n)) (n + 8) (iv n)) j = h j ∧ (upd (upd f n (h n)) (n + 8) (iv n)) (j + 8) = iv j from fun j hj => by
        by_cases e : j = n
        · subst e; rw [upd_other _ _ _ _ (show j ≠ j + 8 by omega), upd_same, upd_same]; exact ⟨rfl, rfl⟩
        · rw [upd_other _ _ _ _ (show j ≠ n + 8 by omega), upd_other _ _ _ _ e, upd_other _ _ _ _ (show j + 8 ≠ n + 8 by omega), upd_other _ _ _ _ (show j + 8 ≠ n by omega)]; exact hd j (by omega)))
      clear K HR hd
      generalize (upd (upd f n (h n)) (n + 8) (iv n)) = f' at HS
      go_wp2
      go_roundw
      case rel => first | exact ⟨n + 1, f', by omega, by go_num, HS.out⟩ | ((repeat apply Exists.intro); refine ⟨⟨n + 1, f', by omega, by go_num, HS.out⟩, rfl⟩)
      case measure => simp [intOf]; omega
    · obtain rfl : n = 8 := by omega
      have HR := (K.get _ _ _ _ mS).congr (g := app h 8 iv) (fun j hj => by
        unfold app
        by_cases e : j < 8
        · rw [if_pos e]; exact (hd j e).1
        · rw [if_neg e]; have := (hd (j - 8) (by omega)).2; rw [show j - 8 + 8 = j by omega] at this; exact this)
      replace K := (K.loose [(w.heap.size, .u32, 8, h)] (w.heap.size + 1 + 1) .u32 16 f mS (fun p hp => by obtain rfl := List.mem_singleton.1 hp; exact (mT _ mS)) (fun p hp => by obtain rfl := List.mem_singleton.1 hp; simp only; omega) (by omega)).settle [(w.heap.size + 1, 16)] (w.heap.size + 1 + 1) .u32 16 (app h 8 iv) mS (fun q hq => mT _ hq) (fun q hq => by obtain rfl := List.mem_singleton.1 hq; simp only; omega) HR
      clear HR hd hlt hn g1
      go_upto_region 7 with fail
      refine wp_region_list ?_
      refine pureL (.pointer (some ⟨w.heap.size + 1 + 1, 12, none⟩)) rfl (fun w' => ixW (w.heap.size + 1 + 1) 12 (by decide) w' _ _ rfl rfl rfl) ?_
      simp only [aP, lI, l0, lS]
      refine cellL .u32 (.int .u32 (iv 4)) (w.heap.size + 1 + 1) 12 60 _ rfl rfl rfl Tryd.underlying60 ((K.get _ _ _ _ mS).cell 12 (by decide)) ?_
      simp only [aP, lI, l0, lS]
      refine pureL (.int .u64 t) rfl (fun _ => by kernel_rfl) ?_
      simp only [aP, lI, l0, lS]
      refine pureL (.int .u32 (t % 4294967296)) rfl (fun w => convI .u64 .u32 _ _ _ _ _ rfl (by kernel_rfl) Tryd.underlying60 (by kernel_rfl) rfl (IntKind.wrap_u32' _) w) ?_
      simp only [aP, lI, l0, lS]
      refine pureL (.int .u32 (hxr (iv 4) (t % 4294967296))) rfl (fun w => xorI .u32 _ _ _ _ _ _ _ rfl rfl rfl rfl w) ?_
      simp only [aP, lI, l0, lS]
      refine pureL (.pointer (some ⟨w.heap.size + 1 + 1, 12, none⟩)) rfl (fun w' => ixW (w.heap.size + 1 + 1) 12 (by decide) w' _ _ rfl rfl rfl) ?_
      simp only [aP, lI, l0, lS]
      refine storeL .u32 (hxr (iv 4) (t % 4294967296)) (w.heap.size + 1 + 1) 12 60 _ _ rfl rfl rfl rfl (by rw [(K.get _ _ _ _ mS).cell 12 (by decide)]; rfl) ((K.get _ _ _ _ mS).free 12 (by decide)) (by kernel_rfl) ?_
      simp only [Act.put]
      replace K := K.setCell [(w.heap.size, .u32, 8, h)] (w.heap.size + 1 + 1) .u32 16 (app h 8 iv) 12 (by decide) (hxr (iv 4) (t % 4294967296)) mS (fun p hp => by obtain rfl := List.mem_singleton.1 hp; exact (mT _ mS)) (fun p hp => by obtain rfl := List.mem_singleton.1 hp; simp only; omega) (by omega)
      generalize wr.setCell ⟨w.heap.size + 1 + 1, 12, none⟩ (.int .u32 (hxr (iv 4) (t % 4294967296))) = w2 at K ⊢
      show Exit.then _ _ _ _ _
      go_upto_region 8 with fail
      refine wp_region_list ?_
      refine pureL (.pointer (some ⟨w.heap.size + 1 + 1, 13, none⟩)) rfl (fun w' => ixW (w.heap.size + 1 + 1) 13 (by decide) w' _ _ rfl rfl rfl) ?_
      simp only [aP, lI, l0, lS]
      refine cellL .u32 (.int .u32 (iv 5)) (w.heap.size + 1 + 1) 13 60 _ rfl rfl rfl Tryd.underlying60 ((K.get _ _ _ _ mS).cell 13 (by decide)) ?_
      simp only [aP, lI, l0, lS]
      refine pureL (.int .u64 t) rfl (fun _ => by kernel_rfl) ?_
      simp only [aP, lI, l0, lS]
      refine pureL (.int .u64 (t / 4294967296)) rfl (fun w => shrI .u64 .u64 _ 32 _ _ _ _ _ rfl rfl rfl (by decide) rfl w) ?_
      simp only [aP, lI, l0, lS]
      refine pureL (.int .u32 (t / 4294967296 % 4294967296)) rfl (fun w => convI .u64 .u32 _ _ _ _ _ rfl (by kernel_rfl) Tryd.underlying60 (by kernel_rfl) rfl (IntKind.wrap_u32' _) w) ?_
      simp only [aP, lI, l0, lS]
      refine pureL (.int .u32 (hxr (iv 5) (t / 4294967296 % 4294967296))) rfl (fun w => xorI .u32 _ _ _ _ _ _ _ rfl rfl rfl rfl w) ?_
      simp only [aP, lI, l0, lS]
      refine pureL (.pointer (some ⟨w.heap.size + 1 + 1, 13, none⟩)) rfl (fun w' => ixW (w.heap.size + 1 + 1) 13 (by decide) w' _ _ rfl rfl rfl) ?_
      simp only [aP, lI, l0, lS]
      refine storeL .u32 (hxr (iv 5) (t / 4294967296 % 4294967296)) (w.heap.size + 1 + 1) 13 60 _ _ rfl rfl rfl rfl (by rw [(K.get _ _ _ _ mS).cell 13 (by decide)]; rfl) ((K.get _ _ _ _ mS).free 13 (by decide)) (by kernel_rfl) ?_
      simp only [Act.put]
      replace K := K.setCell [(w.heap.size, .u32, 8, h)] (w.heap.size + 1 + 1) .u32 16 (upd (app h 8 iv) 12 (hxr (iv 4) (t % 4294967296))) 13 (by decide) (hxr (iv 5) (t / 4294967296 % 4294967296)) mS (fun p hp => by obtain rfl := List.mem_singleton.1 hp; exact (mT _ mS)) (fun p hp => by obtain rfl := List.mem_singleton.1 hp; simp only; omega) (by omega)
      generalize w2.setCell ⟨w.heap.size + 1 + 1, 13, none⟩ (.int .u32 (hxr (iv 5) (t / 4294967296 % 4294967296))) = w3 at K ⊢
      show Exit.then _ _ _ _ _
      have hcon := bst_of h t (upd (upd (app h 8 iv) 12 (hxr (iv 4) (t % 4294967296))) 13 (hxr (iv 5) (t / 4294967296 % 4294967296))) last (fun _ => rfl)
      cases last
      · have HR := (K.get _ _ _ _ mS).congr (g := bst h t false) hcon
        have hz' := (K.room _ mS).1
        have hB := (K.fill _ _ mS (row .u32 16 (bst h t false))).below
        clear K hcon
        generalize hf : bst h t false = g at *
        go_wp2_with (first | (refine wpList_load_mid rfl 70 _ rfl (w.heap.size + 1 + 1) 0 rfl (row .u32 16 (g)) _ (Has.range (HR)) Tryd.underlying70 rfl (bwd_info _) ?_) | (refine wpList_store_mid rfl 70 _ _ rfl (w.heap.size + 1) 0 (row .u32 16 g).toArray rfl rfl (room_of hz') (bwd_info' _) (all_oneCell_toArray (row_one _ _ _)) ?_))
        exact bodyPost_ret (v := (.agg (row .u32 16 (g)).toArray)) (results_row Tryd.results47 rfl (Has.all hz' .u32 g).range Tryd.underlying70 rfl (bwd_info g)) rfl ⟨rfl, hB⟩
      · go_upto_region 10 with fail
        refine wp_region_list ?_
        refine pureL (.pointer (some ⟨w.heap.size + 1 + 1, 14, none⟩)) rfl (fun w' => ixW (w.heap.size + 1 + 1) 14 (by decide) w' _ _ rfl rfl rfl) ?_
        simp only [aP, lI, l0, lS]
        refine cellL .u32 (.int .u32 (iv 6)) (w.heap.size + 1 + 1) 14 60 _ rfl rfl rfl Tryd.underlying60 ((K.get _ _ _ _ mS).cell 14 (by decide)) ?_
        simp only [aP, lI, l0, lS]
        refine pureL (.int .u32 (4294967295 - iv 6)) rfl (fun w => notI .u32 _ _ _ _ rfl rfl (by decide +kernel) w) ?_
        simp only [aP, lI, l0, lS]
        refine pureL (.pointer (some ⟨w.heap.size + 1 + 1, 14, none⟩)) rfl (fun w' => ixW (w.heap.size + 1 + 1) 14 (by decide) w' _ _ rfl rfl rfl) ?_
        simp only [aP, lI, l0, lS]
        refine storeL .u32 (4294967295 - iv 6) (w.heap.size + 1 + 1) 14 60 _ _ rfl rfl rfl rfl (by rw [(K.get _ _ _ _ mS).cell 14 (by decide)]; rfl) ((K.get _ _ _ _ mS).free 14 (by decide)) (by kernel_rfl) ?_
        simp only [Act.put]
        replace K := K.setCell [(w.heap.size, .u32, 8, h)] (w.heap.size + 1 + 1) .u32 16 (upd (upd (app h 8 iv) 12 (hxr (iv 4) (t % 4294967296))) 13 (hxr (iv 5) (t / 4294967296 % 4294967296))) 14 (by decide) (4294967295 - iv 6) mS (fun p hp => by obtain rfl := List.mem_singleton.1 hp; exact (mT _ mS)) (fun p hp => by obtain rfl := List.mem_singleton.1 hp; simp only; omega) (by omega)
        generalize w3.setCell ⟨w.heap.size + 1 + 1, 14, none⟩ (.int .u32 (4294967295 - iv 6)) = w4 at K ⊢
        show Exit.then _ _ _ _ _
        have HR := (K.get _ _ _ _ mS).congr (g := bst h t true) hcon
        have hz' := (K.room _ mS).1
        have hB := (K.fill _ _ mS (row .u32 16 (bst h t true))).below
        clear K hcon
        generalize hf : bst h t true = g at *
        go_wp2_with (first | (refine wpList_load_mid rfl 70 _ rfl (w.heap.size + 1 + 1) 0 rfl (row .u32 16 (g)) _ (Has.range (HR)) Tryd.underlying70 rfl (bwd_info _) ?_) | (refine wpList_store_mid rfl 70 _ _ rfl (w.heap.size + 1) 0 (row .u32 16 g).toArray rfl rfl (room_of hz') (bwd_info' _) (all_oneCell_toArray (row_one _ _ _)) ?_))
        exact bodyPost_ret (v := (.agg (row .u32 16 (g)).toArray)) (results_row Tryd.results47 rfl (Has.all hz' .u32 g).range Tryd.underlying70 rfl (bwd_info g)) rfl ⟨rfl, hB⟩
end Go.Proofs.YtckohmdmjhaknaaDoor
