/- Texts of LawKeysEnd Bd Hw, joined. -/
import Derived.Test.YtckohmdmjhaknaaDoorP6KeysEnd
import Derived.Test.YtckohmdmjhaknaaDoorP3KeysEnd
import Derived.Test.YtckohmdmjhaknaaDoorP1KeysEnd
import Derived.Test.YtckohmdmjhaknaaDoorP2KeysEnd
import Derived.Test.YtckohmdmjhaknaaDoorProg
import Derived.BigRegion
import Derived.BigQuiet
import Derived.Laws.Externs
set_option maxRecDepth 20000
set_option maxHeartbeats 64000000
namespace Go.Proofs.YtckohmdmjhaknaaDoor
open Go.RowKit
theorem law_KeysEnd {I : Value → Kys → List (Nat × List Value) → Prop} (hK : KeysOK I) (hA : KeysAt I) (r : Nat → Int) (hr : In 256 32 r) (p : Int) (hp : i64 p) (z : Int) (hz : i64 z) (w0 : World) (hg : BGlob w0) :
    Calls Tryd.prog 5 #[.agg (row .u8 32 r).toArray, .int .i64 p, .int .i64 z] w0 fun e w' => e = .returned (.bool true) ∧ Below w0.heap.size w0 w' := by
  unfold i64 at hz
  have M := Mm.init w0
  go_enter Tryd.func5, Tryd.ntmps5
  go_upto_region 0 with fail
  refine wp_region_list ?_
  refine actL (w' := w0.alloc (.cells (row .u8 32 r).toArray 23)) (.pointer (some ⟨w0.heap.size, 0, none⟩)) rfl (by kernel_rfl) ?_
  simp only [aP, lI, l0, lS]
  replace M := M.box (row .u8 32 r).toArray 23 w0.heap.size rfl
  generalize w0.alloc (.cells (row .u8 32 r).toArray 23) = w1 at M ⊢
  generalize w0.heap.size = B1 at M ⊢
  replace M : Mm w0 ((B1, row .u8 32 r) :: ([] : List (Nat × List Value))) w1 := M
  refine readL (.bool false) rfl (by kernel_rfl) ?_
  simp only [aP, lI, l0, lS]
  first | show Exit.then _ _ _ _ _ | show Exit.inBlock _ _ _ _ _
  go_upto_region 1 with fail
  refine wp_region_list ?_
  refine callL rfl (fun _ => by kernel_rfl) (shown15_any hK _ (hg.below M.below hg.size)) ?_
  rintro e w2 ⟨rfl, l⟩
  replace M := M.call l
  clear l
  refine ⟨_, rfl, ?_⟩
  simp only [aP, lI, l0, lS]
  refine readL (.bool true) rfl (by kernel_rfl) ?_
  simp only [aP, lI, l0, lS]
  first | show Exit.then _ _ _ _ _ | show Exit.inBlock _ _ _ _ _
  go_upto_region 2 with fail
  refine wp_region_list ?_
  refine readL (.agg (row .u8 32 r).toArray) rfl (loadN 23 _ ⟨B1, 0, none⟩ (row .u8 32 r) rfl rfl (fun _ => by kernel_rfl) (fun _ => by rw [row32]; kernel_rfl) (M.part mS 0 _ (by rw [List.drop_zero, List.take_length]))) ?_
  simp only [aP, lI, l0, lS]
  refine readL (.int .i64 p) rfl (by kernel_rfl) ?_
  simp only [aP, lI, l0, lS]
  have key := hA w0 _ _ r p hg hr hp M
  refine callL rfl (fun _ => by kernel_rfl) key ?_
  clear key
  rintro e w3 ⟨v_, ba0, rfl, hIa, M', l⟩
  obtain ⟨Ra, rfl⟩ := hK.ptr _ _ _ hIa
  clear M l
  have M := M'.perm (pull0 ([(B1, row .u8 32 r)] : List (Nat × List Value)) ba0 ([] : List (Nat × List Value))).symm
  clear M'
  replace M : Mm w0 ((B1, row .u8 32 r) :: (ba0 ++ ([] : List (Nat × List Value)))) w3 := M
  refine ⟨_, rfl, ?_⟩
  simp only [aP, lI, l0, lS]
  refine readL (.pointer (some ⟨Ra, 0, none⟩)) rfl (by kernel_rfl) ?_
  simp only [aP, lI, l0, lS]
  first | show Exit.then _ _ _ _ _ | show Exit.inBlock _ _ _ _ _
  go_upto_region 3 with fail
  refine wp_region_list ?_
  refine readL (.agg (row .u8 32 r).toArray) rfl (loadN 23 _ ⟨B1, 0, none⟩ (row .u8 32 r) rfl rfl (fun _ => by kernel_rfl) (fun _ => by rw [row32]; kernel_rfl) (M.part mS 0 _ (by rw [List.drop_zero, List.take_length]))) ?_
  simp only [aP, lI, l0, lS]
  refine readL (.int .i64 p) rfl (by kernel_rfl) ?_
  simp only [aP, lI, l0, lS]
  have key := ryat_any w0 _ _ r p M
  refine callL rfl (fun _ => by kernel_rfl) key ?_
  clear key
  rintro e w4 ⟨Y, rfl, -, M', -⟩
  clear M
  have M := M'
  clear M'
  replace M : Mm w0 ((Y, ykc (yat r p)) :: (B1, row .u8 32 r) :: (ba0 ++ ([] : List (Nat × List Value)))) w4 := M
  refine ⟨_, rfl, ?_⟩
  simp only [aP, lI, l0, lS]
  refine readL (.pointer (some ⟨Y, 0, none⟩)) rfl (by kernel_rfl) ?_
  simp only [aP, lI, l0, lS]
  first | show Exit.then _ _ _ _ _ | show Exit.inBlock _ _ _ _ _
  go_upto_region 4 with fail
  refine wp_region_list ?_
  refine readL (.bool true) rfl (by kernel_rfl) ?_
  simp only [aP, lI, l0, lS]
  refine readL (.bool false) rfl (by kernel_rfl) ?_
  simp only [aP, lI, l0, lS]
  refine readL (.bool false) rfl (by kernel_rfl) ?_
  simp only [aP, lI, l0, lS]
  refine readL (.pointer (some ⟨Ra, 0, none⟩)) rfl (by kernel_rfl) ?_
  simp only [aP, lI, l0, lS]
  refine readL (.bool false) rfl (by kernel_rfl) ?_
  simp only [aP, lI, l0, lS]
  refine readL (.bool false) rfl (by kernel_rfl) ?_
  simp only [aP, lI, l0, lS]
  first | show Exit.then _ _ _ _ _ | show Exit.inBlock _ _ _ _ _
  replace M := M.swap
  replace M := M.swap
  by_cases hneg : z < 0
  · go_upto_region 6 with fail
    refine wp_region_list ?_
    refine readL (.int .i64 z) rfl (by kernel_rfl) ?_
    simp only [aP, lI, l0, lS]
    refine readL (.bool true) rfl (lssI .i64 _ _ _ _ _ _ rfl rfl rfl true (decide_eq_true hneg) _) ?_
    simp only [aP, lI, l0, lS]
    first | show Exit.then _ _ _ _ _ | show Exit.inBlock _ _ _ _ _
    go_upto_region 7 with fail
    refine wp_region_list ?_
    refine readL (.int .i64 z) rfl (by kernel_rfl) ?_
    simp only [aP, lI, l0, lS]
    refine readL (.int .i64 (z + 1)) rfl (addI .i64 _ _ _ _ _ _ _ rfl rfl rfl (by rw [IntKind.wrap_i64]; omega) _) ?_
    simp only [aP, lI, l0, lS]
    refine readL (.int .i64 (-(z + 1))) rfl (negI .i64 _ _ _ _ rfl rfl (by rw [IntKind.wrap_i64]; omega) _) ?_
    simp only [aP, lI, l0, lS]
    refine readL (.int .i64 (-(z + 1))) rfl (by kernel_rfl) ?_
    simp only [aP, lI, l0, lS]
    first | show Exit.then _ _ _ _ _ | show Exit.inBlock _ _ _ _ _
    obtain ⟨N, hN, hN2⟩ := tmod_nat15 (-(z + 1)) (by omega) 6 (by decide)
    go_upto_region 8 with fail
    refine wp_region_list ?_
    refine readL (.int .i64 0) rfl (by kernel_rfl) ?_
    simp only [aP, lI, l0, lS]
    first | show Exit.then _ _ _ _ _ | show Exit.inBlock _ _ _ _ _
    have HI := show Hid _ from (show I (.pointer (some ⟨Ra, 0, none⟩)) (yon 0 (yat r p)) ba0 ∧ Mm w0 ((Y, ykc (yon 0 (yat r p))) :: (B1, row .u8 32 r) :: (ba0 ++ ([] : List (Nat × List Value)))) w4 from ⟨hIa, M⟩)
    have hN' := show Hid _ from hN
    clear M hIa hN
    go_wp2
    go_loopw [10] (fun i w' => ∃ (q : Nat) (bs : List (Nat × List Value)), q ≤ N + 1 ∧ i = .int .i64 (q : Int) ∧ I (.pointer (some ⟨Ra, 0, none⟩)) (yon q (yat r p)) bs ∧ Mm w0 ((Y, ykc (yon q (yat r p))) :: (B1, row .u8 32 r) :: (bs ++ ([] : List (Nat × List Value)))) w') (fun i _ => N + 1 - (intOf i).toNat)
    case atStart => exact ⟨0, _, by omega, rfl, HI.out⟩
    case round =>
      clear HI
      obtain ⟨q, bs, hq, rfl, hIa, M⟩ := hrel
      have hN := hN'.out
      have hkw := yon_w (yat_w hr p) q
      have hlo := hkw.lo
      have hhi := hkw.hi
      by_cases hlt : q ≤ N
      · go_upto_region 9 with fail
        refine wp_region_list ?_
        refine readL (.int .i64 (q : Int)) rfl (by kernel_rfl) ?_
        simp only [aP, lI, l0, lS]
        refine readL (.int .i64 (-(z + 1))) rfl (by kernel_rfl) ?_
        simp only [aP, lI, l0, lS]
        refine readL (.int .i64 (N : Int)) rfl (remI .i64 _ _ _ _ _ _ _ rfl rfl rfl (by decide) hN _) ?_
        simp only [aP, lI, l0, lS]
        refine readL (.bool true) rfl (leqI .i64 _ _ _ _ _ _ rfl rfl rfl true (decide_eq_true (by omega)) _) ?_
        simp only [aP, lI, l0, lS]
        first | show Exit.then _ _ _ _ _ | show Exit.inBlock _ _ _ _ _
        go_upto_region 11 with fail
        refine wp_region_list ?_
        refine readL (.pointer (some ⟨Ra, 0, none⟩)) rfl (by kernel_rfl) ?_
        simp only [aP, lI, l0, lS]
        refine readL (.pointer (some ⟨Y, 0, none⟩)) rfl (by kernel_rfl) ?_
        simp only [aP, lI, l0, lS]
        refine readL (.pointer (some ⟨Y, 0, none⟩)) rfl (by kernel_rfl) ?_
        simp only [aP, lI, l0, lS]
        refine readL (.pointer (some ⟨Y, 0, none⟩)) rfl (by kernel_rfl) ?_
        simp only [aP, lI, l0, lS]
        refine readL (.int .i64 ((yon q (yat r p)).e)) rfl (load1 3 _ ⟨Y, 0, none⟩ _ rfl rfl (fun _ => by kernel_rfl) (M.get mS 0 _ rfl)) ?_
        simp only [aP, lI, l0, lS]
        have Mp := M.perm (pull0 ([(Y, ykc (yon q (yat r p))), (B1, row .u8 32 r)] : List (Nat × List Value)) bs ([] : List (Nat × List Value)))
        have key := hK.key w0 _ _ (yon q (yat r p)) bs _ ((yon q (yat r p)).e) hg hkw (by unfold i64; omega) hIa Mp
        clear Mp
        refine callL rfl (fun _ => by kernel_rfl) key ?_
        clear key
        rintro e w5 ⟨rfl, l⟩
        replace M := M.call l
        clear l
        refine ⟨_, rfl, ?_⟩
        simp only [aP, lI, l0, lS]
        refine readL (.tuple #[.agg (row .u8 32 (ykK (yon q (yat r p)) ((yon q (yat r p)).e))).toArray, .int .i64 (ykE (yon q (yat r p)) ((yon q (yat r p)).e))]) rfl (by kernel_rfl) ?_
        simp only [aP, lI, l0, lS]
        refine readL (.agg (row .u8 32 (ykK (yon q (yat r p)) ((yon q (yat r p)).e))).toArray) rfl (by kernel_rfl) ?_
        simp only [aP, lI, l0, lS]
        refine readL (.int .i64 (ykE (yon q (yat r p)) ((yon q (yat r p)).e))) rfl (by kernel_rfl) ?_
        simp only [aP, lI, l0, lS]
        refine actL (w' := w5.alloc (.cells zu8_32 23)) (.pointer (some ⟨w5.heap.size, 0, none⟩)) rfl (by kernel_rfl) ?_
        simp only [aP, lI, l0, lS]
        replace M := M.box zu8_32 23 w5.heap.size rfl
        generalize w5.alloc (.cells zu8_32 23) = w6 at M ⊢
        generalize w5.heap.size = B6 at M ⊢
        replace M : Mm w0 ((B6, row .u8 32 (fun _ => 0)) :: (Y, ykc (yon q (yat r p))) :: (B1, row .u8 32 r) :: (bs ++ ([] : List (Nat × List Value)))) w6 := M
        refine skipOpL rfl (storeP (row .u8 32 (ykK (yon q (yat r p)) ((yon q (yat r p)).e))) B6 0 23 _ _ rfl rfl rfl (M.thereP mS 0 32 (Nat.le_of_ble_eq_true rfl)) (by kernel_rfl) (row_one .u8 32 (ykK (yon q (yat r p)) ((yon q (yat r p)).e)))) ?_
        simp only [Act.put]
        replace M := M.setAll (row .u8 32 (ykK (yon q (yat r p)) ((yon q (yat r p)).e))) (by first | (rw [row32, row32]; done) | (rw [row32]; rfl) | (rw [row32]; done))
        generalize w6.setCells B6 0 (row .u8 32 (ykK (yon q (yat r p)) ((yon q (yat r p)).e))) = w7 at M  ⊢
        refine readL (.int .i64 (ykE (yon q (yat r p)) ((yon q (yat r p)).e))) rfl (by kernel_rfl) ?_
        simp only [aP, lI, l0, lS]
        first | show Exit.then _ _ _ _ _ | show Exit.inBlock _ _ _ _ _
        go_upto_region 12 with fail
        refine wp_region_list ?_
        refine readL (.pointer (some ⟨Y, 0, none⟩)) rfl (by kernel_rfl) ?_
        simp only [aP, lI, l0, lS]
        refine readL (.pointer (some ⟨Y, 0, none⟩)) rfl (by kernel_rfl) ?_
        simp only [aP, lI, l0, lS]
        refine readL (.pointer (some ⟨Y, 0, none⟩)) rfl (by kernel_rfl) ?_
        simp only [aP, lI, l0, lS]
        refine readL (.pointer (some ⟨Y, 0, none⟩)) rfl (by kernel_rfl) ?_
        simp only [aP, lI, l0, lS]
        refine readL (.int .i64 ((yon q (yat r p)).e)) rfl (load1 3 _ ⟨Y, 0, none⟩ _ rfl rfl (fun _ => by kernel_rfl) (M.get (mT _ mS) 0 _ rfl)) ?_
        simp only [aP, lI, l0, lS]
        replace M := M.swap
        have key := rykey_any w0 _ Y _ (yon q (yat r p)) hkw ((yon q (yat r p)).e) M
        refine callL rfl (fun _ => by kernel_rfl) key ?_
        clear key
        rintro e w8 ⟨rfl, l⟩
        replace M := M.call l
        clear l
        refine ⟨_, rfl, ?_⟩
        simp only [aP, lI, l0, lS]
        refine readL (.tuple #[.agg (row .u8 32 (ykK (yon q (yat r p)) ((yon q (yat r p)).e))).toArray, .int .i64 (ykE (yon q (yat r p)) ((yon q (yat r p)).e))]) rfl (by kernel_rfl) ?_
        simp only [aP, lI, l0, lS]
        refine readL (.agg (row .u8 32 (ykK (yon q (yat r p)) ((yon q (yat r p)).e))).toArray) rfl (by kernel_rfl) ?_
        simp only [aP, lI, l0, lS]
        refine readL (.int .i64 (ykE (yon q (yat r p)) ((yon q (yat r p)).e))) rfl (by kernel_rfl) ?_
        simp only [aP, lI, l0, lS]
        refine actL (w' := w8.alloc (.cells zu8_32 23)) (.pointer (some ⟨w8.heap.size, 0, none⟩)) rfl (by kernel_rfl) ?_
        simp only [aP, lI, l0, lS]
        replace M := M.box zu8_32 23 w8.heap.size rfl
        generalize w8.alloc (.cells zu8_32 23) = w9 at M ⊢
        generalize w8.heap.size = B9 at M ⊢
        replace M : Mm w0 ((B9, row .u8 32 (fun _ => 0)) :: (Y, ykc (yon q (yat r p))) :: (B6, row .u8 32 (ykK (yon q (yat r p)) ((yon q (yat r p)).e))) :: (B1, row .u8 32 r) :: (bs ++ ([] : List (Nat × List Value)))) w9 := M
        refine skipOpL rfl (storeP (row .u8 32 (ykK (yon q (yat r p)) ((yon q (yat r p)).e))) B9 0 23 _ _ rfl rfl rfl (M.thereP mS 0 32 (Nat.le_of_ble_eq_true rfl)) (by kernel_rfl) (row_one .u8 32 (ykK (yon q (yat r p)) ((yon q (yat r p)).e)))) ?_
        simp only [Act.put]
        replace M := M.setAll (row .u8 32 (ykK (yon q (yat r p)) ((yon q (yat r p)).e))) (by first | (rw [row32, row32]; done) | (rw [row32]; rfl) | (rw [row32]; done))
        generalize w9.setCells B9 0 (row .u8 32 (ykK (yon q (yat r p)) ((yon q (yat r p)).e))) = w10 at M  ⊢
        refine readL (.int .i64 (ykE (yon q (yat r p)) ((yon q (yat r p)).e))) rfl (by kernel_rfl) ?_
        simp only [aP, lI, l0, lS]
        first | show Exit.then _ _ _ _ _ | show Exit.inBlock _ _ _ _ _
        go_upto_region 13 with fail
        refine wp_region_list ?_
        refine readL (.pointer (some ⟨Ra, 0, none⟩)) rfl (by kernel_rfl) ?_
        simp only [aP, lI, l0, lS]
        refine readL (.pointer (some ⟨Y, 0, none⟩)) rfl (by kernel_rfl) ?_
        simp only [aP, lI, l0, lS]
        refine readL (.pointer (some ⟨Y, 0, none⟩)) rfl (by kernel_rfl) ?_
        simp only [aP, lI, l0, lS]
        refine readL (.pointer (some ⟨Y, 0, none⟩)) rfl (by kernel_rfl) ?_
        simp only [aP, lI, l0, lS]
        refine readL (.int .i64 ((yon q (yat r p)).e)) rfl (load1 3 _ ⟨Y, 0, none⟩ _ rfl rfl (fun _ => by kernel_rfl) (M.get (mT _ mS) 0 _ rfl)) ?_
        simp only [aP, lI, l0, lS]
        refine readL (.int .i64 ((yon q (yat r p)).e - 1)) rfl (subI .i64 _ _ _ _ _ _ _ rfl rfl rfl (by rw [IntKind.wrap_i64]; omega) _) ?_
        simp only [aP, lI, l0, lS]
        have Mp := M.perm (pull0 ([(B9, row .u8 32 (ykK (yon q (yat r p)) ((yon q (yat r p)).e))), (Y, ykc (yon q (yat r p))), (B6, row .u8 32 (ykK (yon q (yat r p)) ((yon q (yat r p)).e))), (B1, row .u8 32 r)] : List (Nat × List Value)) bs ([] : List (Nat × List Value)))
        have key := hK.key w0 _ _ (yon q (yat r p)) bs _ ((yon q (yat r p)).e - 1) hg hkw (by unfold i64; omega) hIa Mp
        clear Mp
        refine callL rfl (fun _ => by kernel_rfl) key ?_
        clear key
        rintro e w11 ⟨rfl, l⟩
        replace M := M.call l
        clear l
        refine ⟨_, rfl, ?_⟩
        simp only [aP, lI, l0, lS]
        refine readL (.tuple #[.agg (row .u8 32 (ykK (yon q (yat r p)) ((yon q (yat r p)).e - 1))).toArray, .int .i64 (ykE (yon q (yat r p)) ((yon q (yat r p)).e - 1))]) rfl (by kernel_rfl) ?_
        simp only [aP, lI, l0, lS]
        refine readL (.agg (row .u8 32 (ykK (yon q (yat r p)) ((yon q (yat r p)).e - 1))).toArray) rfl (by kernel_rfl) ?_
        simp only [aP, lI, l0, lS]
        refine readL (.int .i64 (ykE (yon q (yat r p)) ((yon q (yat r p)).e - 1))) rfl (by kernel_rfl) ?_
        simp only [aP, lI, l0, lS]
        refine actL (w' := w11.alloc (.cells zu8_32 23)) (.pointer (some ⟨w11.heap.size, 0, none⟩)) rfl (by kernel_rfl) ?_
        simp only [aP, lI, l0, lS]
        replace M := M.box zu8_32 23 w11.heap.size rfl
        generalize w11.alloc (.cells zu8_32 23) = w12 at M ⊢
        generalize w11.heap.size = B12 at M ⊢
        replace M : Mm w0 ((B12, row .u8 32 (fun _ => 0)) :: (B9, row .u8 32 (ykK (yon q (yat r p)) ((yon q (yat r p)).e))) :: (Y, ykc (yon q (yat r p))) :: (B6, row .u8 32 (ykK (yon q (yat r p)) ((yon q (yat r p)).e))) :: (B1, row .u8 32 r) :: (bs ++ ([] : List (Nat × List Value)))) w12 := M
        refine skipOpL rfl (storeP (row .u8 32 (ykK (yon q (yat r p)) ((yon q (yat r p)).e - 1))) B12 0 23 _ _ rfl rfl rfl (M.thereP mS 0 32 (Nat.le_of_ble_eq_true rfl)) (by kernel_rfl) (row_one .u8 32 (ykK (yon q (yat r p)) ((yon q (yat r p)).e - 1)))) ?_
        simp only [Act.put]
        replace M := M.setAll (row .u8 32 (ykK (yon q (yat r p)) ((yon q (yat r p)).e - 1))) (by first | (rw [row32, row32]; done) | (rw [row32]; rfl) | (rw [row32]; done))
        generalize w12.setCells B12 0 (row .u8 32 (ykK (yon q (yat r p)) ((yon q (yat r p)).e - 1))) = w13 at M  ⊢
        refine readL (.int .i64 (ykE (yon q (yat r p)) ((yon q (yat r p)).e - 1))) rfl (by kernel_rfl) ?_
        simp only [aP, lI, l0, lS]
        first | show Exit.then _ _ _ _ _ | show Exit.inBlock _ _ _ _ _
        go_upto_region 14 with fail
        refine wp_region_list ?_
        refine readL (.pointer (some ⟨Y, 0, none⟩)) rfl (by kernel_rfl) ?_
        simp only [aP, lI, l0, lS]
        refine readL (.pointer (some ⟨Y, 0, none⟩)) rfl (by kernel_rfl) ?_
        simp only [aP, lI, l0, lS]
        refine readL (.pointer (some ⟨Y, 0, none⟩)) rfl (by kernel_rfl) ?_
        simp only [aP, lI, l0, lS]
        refine readL (.pointer (some ⟨Y, 0, none⟩)) rfl (by kernel_rfl) ?_
        simp only [aP, lI, l0, lS]
        refine readL (.int .i64 ((yon q (yat r p)).e)) rfl (load1 3 _ ⟨Y, 0, none⟩ _ rfl rfl (fun _ => by kernel_rfl) (M.get (mT _ (mT _ mS)) 0 _ rfl)) ?_
        simp only [aP, lI, l0, lS]
        refine readL (.int .i64 ((yon q (yat r p)).e - 1)) rfl (subI .i64 _ _ _ _ _ _ _ rfl rfl rfl (by rw [IntKind.wrap_i64]; omega) _) ?_
        simp only [aP, lI, l0, lS]
        replace M := M.rot3
        have key := rykey_any w0 _ Y _ (yon q (yat r p)) hkw ((yon q (yat r p)).e - 1) M
        refine callL rfl (fun _ => by kernel_rfl) key ?_
        clear key
        rintro e w14 ⟨rfl, l⟩
        replace M := M.call l
        clear l
        refine ⟨_, rfl, ?_⟩
        simp only [aP, lI, l0, lS]
        refine readL (.tuple #[.agg (row .u8 32 (ykK (yon q (yat r p)) ((yon q (yat r p)).e - 1))).toArray, .int .i64 (ykE (yon q (yat r p)) ((yon q (yat r p)).e - 1))]) rfl (by kernel_rfl) ?_
        simp only [aP, lI, l0, lS]
        refine readL (.agg (row .u8 32 (ykK (yon q (yat r p)) ((yon q (yat r p)).e - 1))).toArray) rfl (by kernel_rfl) ?_
        simp only [aP, lI, l0, lS]
        refine readL (.int .i64 (ykE (yon q (yat r p)) ((yon q (yat r p)).e - 1))) rfl (by kernel_rfl) ?_
        simp only [aP, lI, l0, lS]
        refine actL (w' := w14.alloc (.cells zu8_32 23)) (.pointer (some ⟨w14.heap.size, 0, none⟩)) rfl (by kernel_rfl) ?_
        simp only [aP, lI, l0, lS]
        replace M := M.box zu8_32 23 w14.heap.size rfl
        generalize w14.alloc (.cells zu8_32 23) = w15 at M ⊢
        generalize w14.heap.size = B15 at M ⊢
        replace M : Mm w0 ((B15, row .u8 32 (fun _ => 0)) :: (Y, ykc (yon q (yat r p))) :: (B12, row .u8 32 (ykK (yon q (yat r p)) ((yon q (yat r p)).e - 1))) :: (B9, row .u8 32 (ykK (yon q (yat r p)) ((yon q (yat r p)).e))) :: (B6, row .u8 32 (ykK (yon q (yat r p)) ((yon q (yat r p)).e))) :: (B1, row .u8 32 r) :: (bs ++ ([] : List (Nat × List Value)))) w15 := M
        refine skipOpL rfl (storeP (row .u8 32 (ykK (yon q (yat r p)) ((yon q (yat r p)).e - 1))) B15 0 23 _ _ rfl rfl rfl (M.thereP mS 0 32 (Nat.le_of_ble_eq_true rfl)) (by kernel_rfl) (row_one .u8 32 (ykK (yon q (yat r p)) ((yon q (yat r p)).e - 1)))) ?_
        simp only [Act.put]
        replace M := M.setAll (row .u8 32 (ykK (yon q (yat r p)) ((yon q (yat r p)).e - 1))) (by first | (rw [row32, row32]; done) | (rw [row32]; rfl) | (rw [row32]; done))
        generalize w15.setCells B15 0 (row .u8 32 (ykK (yon q (yat r p)) ((yon q (yat r p)).e - 1))) = w16 at M  ⊢
        refine readL (.int .i64 (ykE (yon q (yat r p)) ((yon q (yat r p)).e - 1))) rfl (by kernel_rfl) ?_
        simp only [aP, lI, l0, lS]
        first | show Exit.then _ _ _ _ _ | show Exit.inBlock _ _ _ _ _
        go_upto_region 15 with fail
        refine wp_region_list ?_
        refine readL (.pointer (some ⟨Ra, 0, none⟩)) rfl (by kernel_rfl) ?_
        simp only [aP, lI, l0, lS]
        have Mp := M.perm (pull0 ([(B15, row .u8 32 (ykK (yon q (yat r p)) ((yon q (yat r p)).e - 1))), (Y, ykc (yon q (yat r p))), (B12, row .u8 32 (ykK (yon q (yat r p)) ((yon q (yat r p)).e - 1))), (B9, row .u8 32 (ykK (yon q (yat r p)) ((yon q (yat r p)).e))), (B6, row .u8 32 (ykK (yon q (yat r p)) ((yon q (yat r p)).e))), (B1, row .u8 32 r)] : List (Nat × List Value)) bs ([] : List (Nat × List Value)))
        have key := hK.nxt w0 _ _ (yon q (yat r p)) bs _ hg hkw hIa Mp
        clear Mp
        refine callL rfl (fun _ => by kernel_rfl) key ?_
        clear key
        rintro e w17 ⟨rfl, l⟩
        replace M := M.call l
        clear l
        refine ⟨_, rfl, ?_⟩
        simp only [aP, lI, l0, lS]
        refine readL (.tuple #[.agg (row .u8 32 (ynK (yon q (yat r p)))).toArray, .int .i64 (ynE (yon q (yat r p)))]) rfl (by kernel_rfl) ?_
        simp only [aP, lI, l0, lS]
        refine readL (.agg (row .u8 32 (ynK (yon q (yat r p)))).toArray) rfl (by kernel_rfl) ?_
        simp only [aP, lI, l0, lS]
        refine readL (.int .i64 (ynE (yon q (yat r p)))) rfl (by kernel_rfl) ?_
        simp only [aP, lI, l0, lS]
        refine actL (w' := w17.alloc (.cells zu8_32 23)) (.pointer (some ⟨w17.heap.size, 0, none⟩)) rfl (by kernel_rfl) ?_
        simp only [aP, lI, l0, lS]
        replace M := M.box zu8_32 23 w17.heap.size rfl
        generalize w17.alloc (.cells zu8_32 23) = w18 at M ⊢
        generalize w17.heap.size = B18 at M ⊢
        replace M : Mm w0 ((B18, row .u8 32 (fun _ => 0)) :: (B15, row .u8 32 (ykK (yon q (yat r p)) ((yon q (yat r p)).e - 1))) :: (Y, ykc (yon q (yat r p))) :: (B12, row .u8 32 (ykK (yon q (yat r p)) ((yon q (yat r p)).e - 1))) :: (B9, row .u8 32 (ykK (yon q (yat r p)) ((yon q (yat r p)).e))) :: (B6, row .u8 32 (ykK (yon q (yat r p)) ((yon q (yat r p)).e))) :: (B1, row .u8 32 r) :: (bs ++ ([] : List (Nat × List Value)))) w18 := M
        refine skipOpL rfl (storeP (row .u8 32 (ynK (yon q (yat r p)))) B18 0 23 _ _ rfl rfl rfl (M.thereP mS 0 32 (Nat.le_of_ble_eq_true rfl)) (by kernel_rfl) (row_one .u8 32 (ynK (yon q (yat r p))))) ?_
        simp only [Act.put]
        replace M := M.setAll (row .u8 32 (ynK (yon q (yat r p)))) (by first | (rw [row32, row32]; done) | (rw [row32]; rfl) | (rw [row32]; done))
        generalize w18.setCells B18 0 (row .u8 32 (ynK (yon q (yat r p)))) = w19 at M  ⊢
        refine readL (.int .i64 (ynE (yon q (yat r p)))) rfl (by kernel_rfl) ?_
        simp only [aP, lI, l0, lS]
        first | show Exit.then _ _ _ _ _ | show Exit.inBlock _ _ _ _ _
        go_upto_region 16 with fail
        refine wp_region_list ?_
        refine readL (.pointer (some ⟨Y, 0, none⟩)) rfl (by kernel_rfl) ?_
        simp only [aP, lI, l0, lS]
        replace M := M.rot3
        have key := rynext_any w0 _ Y _ (yon q (yat r p)) hkw M
        refine callL rfl (fun _ => by kernel_rfl) key ?_
        clear key
        rintro e w20 ⟨rfl, l⟩
        replace M := M.call l
        clear l
        refine ⟨_, rfl, ?_⟩
        simp only [aP, lI, l0, lS]
        refine readL (.tuple #[.agg (row .u8 32 (ynK (yon q (yat r p)))).toArray, .int .i64 (ynE (yon q (yat r p)))]) rfl (by kernel_rfl) ?_
        simp only [aP, lI, l0, lS]
        refine readL (.agg (row .u8 32 (ynK (yon q (yat r p)))).toArray) rfl (by kernel_rfl) ?_
        simp only [aP, lI, l0, lS]
        refine readL (.int .i64 (ynE (yon q (yat r p)))) rfl (by kernel_rfl) ?_
        simp only [aP, lI, l0, lS]
        refine actL (w' := w20.alloc (.cells zu8_32 23)) (.pointer (some ⟨w20.heap.size, 0, none⟩)) rfl (by kernel_rfl) ?_
        simp only [aP, lI, l0, lS]
        replace M := M.box zu8_32 23 w20.heap.size rfl
        generalize w20.alloc (.cells zu8_32 23) = w21 at M ⊢
        generalize w20.heap.size = B21 at M ⊢
        replace M : Mm w0 ((B21, row .u8 32 (fun _ => 0)) :: (Y, ykc (yon q (yat r p))) :: (B18, row .u8 32 (ynK (yon q (yat r p)))) :: (B15, row .u8 32 (ykK (yon q (yat r p)) ((yon q (yat r p)).e - 1))) :: (B12, row .u8 32 (ykK (yon q (yat r p)) ((yon q (yat r p)).e - 1))) :: (B9, row .u8 32 (ykK (yon q (yat r p)) ((yon q (yat r p)).e))) :: (B6, row .u8 32 (ykK (yon q (yat r p)) ((yon q (yat r p)).e))) :: (B1, row .u8 32 r) :: (bs ++ ([] : List (Nat × List Value)))) w21 := M
        refine skipOpL rfl (storeP (row .u8 32 (ynK (yon q (yat r p)))) B21 0 23 _ _ rfl rfl rfl (M.thereP mS 0 32 (Nat.le_of_ble_eq_true rfl)) (by kernel_rfl) (row_one .u8 32 (ynK (yon q (yat r p))))) ?_
        simp only [Act.put]
        replace M := M.setAll (row .u8 32 (ynK (yon q (yat r p)))) (by first | (rw [row32, row32]; done) | (rw [row32]; rfl) | (rw [row32]; done))
        generalize w21.setCells B21 0 (row .u8 32 (ynK (yon q (yat r p)))) = w22 at M  ⊢
        refine readL (.int .i64 (ynE (yon q (yat r p)))) rfl (by kernel_rfl) ?_
        simp only [aP, lI, l0, lS]
        first | show Exit.then _ _ _ _ _ | show Exit.inBlock _ _ _ _ _
        go_upto_region 17 with fail
        refine wp_region_held_drew (S := fun w' => Mm w0 ((B21, row .u8 32 (ynK (yon q (yat r p)))) :: (Y, ykc (yon q (yat r p))) :: (B18, row .u8 32 (ynK (yon q (yat r p)))) :: (B15, row .u8 32 (ykK (yon q (yat r p)) ((yon q (yat r p)).e - 1))) :: (B12, row .u8 32 (ykK (yon q (yat r p)) ((yon q (yat r p)).e - 1))) :: (B9, row .u8 32 (ykK (yon q (yat r p)) ((yon q (yat r p)).e))) :: (B6, row .u8 32 (ykK (yon q (yat r p)) ((yon q (yat r p)).e))) :: (B1, row .u8 32 r) :: (bs ++ ([] : List (Nat × List Value)))) w') (by kernel_rfl) M.drew ?_
        clear M
        intro M
        have hdr := (Below.refl w22.heap.size w22).drew
        clear hdr
        generalize w22.drew = w23 at M  ⊢
        refine readHg (i := 0) (some 95) rfl (.agg (row .u8 32 (ykK (yon q (yat r p)) ((yon q (yat r p)).e))).toArray) rfl rfl (fun _ M => loadN 23 _ ⟨B6, 0, none⟩ (row .u8 32 (ykK (yon q (yat r p)) ((yon q (yat r p)).e))) rfl rfl (fun _ => by kernel_rfl) (fun _ => by rw [row32]; kernel_rfl) (M.part (mT _ (mT _ (mT _ (mT _ (mT _ (mT _ mS)))))) 0 _ (by rw [List.drop_zero, List.take_length]))) M ?_
        simp only [aP, lI, l0, lS]
        refine readHg (i := 1) (some 96) rfl (.agg (row .u8 32 (ykK (yon q (yat r p)) ((yon q (yat r p)).e))).toArray) rfl rfl (fun _ M => loadN 23 _ ⟨B9, 0, none⟩ (row .u8 32 (ykK (yon q (yat r p)) ((yon q (yat r p)).e))) rfl rfl (fun _ => by kernel_rfl) (fun _ => by rw [row32]; kernel_rfl) (M.part (mT _ (mT _ (mT _ (mT _ (mT _ mS))))) 0 _ (by rw [List.drop_zero, List.take_length]))) M ?_
        simp only [aP, lI, l0, lS]
        refine readHg (i := 2) (some 97) rfl (.bool false) rfl rfl (fun _ M => neqV 32 (ykK (yon q (yat r p)) ((yon q (yat r p)).e)) (ykK (yon q (yat r p)) ((yon q (yat r p)).e)) 23 5 _ _ _ rfl rfl rfl Tryd.underlying23 Tryd.underlying5 (fun _ => by kernel_rfl) (by kernel_rfl) (ykK_in _ _) (ykK_in _ _) false (by rw [decide_eq_true rfl]; rfl) _) M ?_
        simp only [aP, lI, l0, lS]
        refine readHg (i := 3) (some 98) rfl (.bool false) rfl rfl (fun _ M => (by kernel_rfl)) M ?_
        simp only [aP, lI, l0, lS]
        refine readHg (i := 4) (some 99) rfl (.int .i64 (ykE (yon q (yat r p)) ((yon q (yat r p)).e))) rfl rfl (fun _ M => (by kernel_rfl)) M ?_
        simp only [aP, lI, l0, lS]
        refine readHg (i := 5) (some 100) rfl (.int .i64 (ykE (yon q (yat r p)) ((yon q (yat r p)).e))) rfl rfl (fun _ M => (by kernel_rfl)) M ?_
        simp only [aP, lI, l0, lS]
        refine readHg (i := 6) (some 101) rfl (.bool false) rfl rfl (fun _ M => neqI .i64 _ _ _ _ _ _ rfl rfl rfl false (bne_self_eq_false _) _) M ?_
        simp only [aP, lI, l0, lS]
        refine readHg (i := 7) (some 102) rfl (.bool false) rfl rfl (fun _ M => (by kernel_rfl)) M ?_
        simp only [aP, lI, l0, lS]
        refine readHg (i := 8) (some 103) rfl (.bool false) rfl rfl (fun _ M => (by kernel_rfl)) M ?_
        simp only [aP, lI, l0, lS]
        refine readHg (i := 9) (some 104) rfl (.agg (row .u8 32 (ykK (yon q (yat r p)) ((yon q (yat r p)).e - 1))).toArray) rfl rfl (fun _ M => loadN 23 _ ⟨B12, 0, none⟩ (row .u8 32 (ykK (yon q (yat r p)) ((yon q (yat r p)).e - 1))) rfl rfl (fun _ => by kernel_rfl) (fun _ => by rw [row32]; kernel_rfl) (M.part (mT _ (mT _ (mT _ (mT _ mS)))) 0 _ (by rw [List.drop_zero, List.take_length]))) M ?_
        simp only [aP, lI, l0, lS]
        refine readHg (i := 10) (some 105) rfl (.agg (row .u8 32 (ykK (yon q (yat r p)) ((yon q (yat r p)).e - 1))).toArray) rfl rfl (fun _ M => loadN 23 _ ⟨B15, 0, none⟩ (row .u8 32 (ykK (yon q (yat r p)) ((yon q (yat r p)).e - 1))) rfl rfl (fun _ => by kernel_rfl) (fun _ => by rw [row32]; kernel_rfl) (M.part (mT _ (mT _ (mT _ mS))) 0 _ (by rw [List.drop_zero, List.take_length]))) M ?_
        simp only [aP, lI, l0, lS]
        refine readHg (i := 11) (some 106) rfl (.bool false) rfl rfl (fun _ M => neqV 32 (ykK (yon q (yat r p)) ((yon q (yat r p)).e - 1)) (ykK (yon q (yat r p)) ((yon q (yat r p)).e - 1)) 23 5 _ _ _ rfl rfl rfl Tryd.underlying23 Tryd.underlying5 (fun _ => by kernel_rfl) (by kernel_rfl) (ykK_in _ _) (ykK_in _ _) false (by rw [decide_eq_true rfl]; rfl) _) M ?_
        simp only [aP, lI, l0, lS]
        refine readHg (i := 12) (some 107) rfl (.bool false) rfl rfl (fun _ M => (by kernel_rfl)) M ?_
        simp only [aP, lI, l0, lS]
        refine readHg (i := 13) (some 108) rfl (.bool false) rfl rfl (fun _ M => (by kernel_rfl)) M ?_
        simp only [aP, lI, l0, lS]
        refine readHg (i := 14) (some 109) rfl (.int .i64 (ykE (yon q (yat r p)) ((yon q (yat r p)).e - 1))) rfl rfl (fun _ M => (by kernel_rfl)) M ?_
        simp only [aP, lI, l0, lS]
        refine readHg (i := 15) (some 110) rfl (.int .i64 (ykE (yon q (yat r p)) ((yon q (yat r p)).e - 1))) rfl rfl (fun _ M => (by kernel_rfl)) M ?_
        simp only [aP, lI, l0, lS]
        refine readHg (i := 16) (some 111) rfl (.bool false) rfl rfl (fun _ M => neqI .i64 _ _ _ _ _ _ rfl rfl rfl false (bne_self_eq_false _) _) M ?_
        simp only [aP, lI, l0, lS]
        refine readHg (i := 17) (some 112) rfl (.bool false) rfl rfl (fun _ M => (by kernel_rfl)) M ?_
        simp only [aP, lI, l0, lS]
        refine readHg (i := 18) (some 113) rfl (.bool false) rfl rfl (fun _ M => (by kernel_rfl)) M ?_
        simp only [aP, lI, l0, lS]
        refine readHg (i := 19) (some 114) rfl (.agg (row .u8 32 (ynK (yon q (yat r p)))).toArray) rfl rfl (fun _ M => loadN 23 _ ⟨B18, 0, none⟩ (row .u8 32 (ynK (yon q (yat r p)))) rfl rfl (fun _ => by kernel_rfl) (fun _ => by rw [row32]; kernel_rfl) (M.part (mT _ (mT _ mS)) 0 _ (by rw [List.drop_zero, List.take_length]))) M ?_
        simp only [aP, lI, l0, lS]
        refine readHg (i := 20) (some 115) rfl (.agg (row .u8 32 (ynK (yon q (yat r p)))).toArray) rfl rfl (fun _ M => loadN 23 _ ⟨B21, 0, none⟩ (row .u8 32 (ynK (yon q (yat r p)))) rfl rfl (fun _ => by kernel_rfl) (fun _ => by rw [row32]; kernel_rfl) (M.part mS 0 _ (by rw [List.drop_zero, List.take_length]))) M ?_
        simp only [aP, lI, l0, lS]
        refine readHg (i := 21) (some 116) rfl (.bool false) rfl rfl (fun _ M => neqV 32 (ynK (yon q (yat r p))) (ynK (yon q (yat r p))) 23 5 _ _ _ rfl rfl rfl Tryd.underlying23 Tryd.underlying5 (fun _ => by kernel_rfl) (by kernel_rfl) (ynK_in _) (ynK_in _) false (by rw [decide_eq_true rfl]; rfl) _) M ?_
        simp only [aP, lI, l0, lS]
        refine readHg (i := 22) (some 117) rfl (.bool false) rfl rfl (fun _ M => (by kernel_rfl)) M ?_
        simp only [aP, lI, l0, lS]
        refine readHg (i := 23) (some 118) rfl (.bool false) rfl rfl (fun _ M => (by kernel_rfl)) M ?_
        simp only [aP, lI, l0, lS]
        refine readHg (i := 24) (some 119) rfl (.int .i64 (ynE (yon q (yat r p)))) rfl rfl (fun _ M => (by kernel_rfl)) M ?_
        simp only [aP, lI, l0, lS]
        refine readHg (i := 25) (some 120) rfl (.int .i64 (ynE (yon q (yat r p)))) rfl rfl (fun _ M => (by kernel_rfl)) M ?_
        simp only [aP, lI, l0, lS]
        refine readHg (i := 26) (some 121) rfl (.bool false) rfl rfl (fun _ M => neqI .i64 _ _ _ _ _ _ rfl rfl rfl false (bne_self_eq_false _) _) M ?_
        simp only [aP, lI, l0, lS]
        refine readHg (i := 27) (some 122) rfl (.bool false) rfl rfl (fun _ M => (by kernel_rfl)) M ?_
        simp only [aP, lI, l0, lS]
        refine readHg (i := 28) (some 123) rfl (.bool false) rfl rfl (fun _ M => (by kernel_rfl)) M ?_
        simp only [aP, lI, l0, lS]
        refine readHg (i := 29) (some 124) rfl (.pointer (some ⟨Ra, 0, none⟩)) rfl rfl (fun _ M => (by kernel_rfl)) M ?_
        simp only [aP, lI, l0, lS]
        refine readHg (i := 31) (some 126) rfl (.pointer (some ⟨Y, 0, none⟩)) rfl rfl (fun _ M => (by kernel_rfl)) M ?_
        simp only [aP, lI, l0, lS]
        refine readHg (i := 32) (some 127) rfl (.pointer (some ⟨Y, 0, none⟩)) rfl rfl (fun _ M => (by kernel_rfl)) M ?_
        simp only [aP, lI, l0, lS]
        refine readHg (i := 33) (some 128) rfl (.pointer (some ⟨Y, 0, none⟩)) rfl rfl (fun _ M => (by kernel_rfl)) M ?_
        simp only [aP, lI, l0, lS]
        refine readHg (i := 34) (some 129) rfl (.int .i64 ((yon q (yat r p)).e)) rfl rfl (fun _ M => load1 3 _ ⟨Y, 0, none⟩ _ rfl rfl (fun _ => by kernel_rfl) (M.get (mT _ mS) 0 _ rfl)) M ?_
        simp only [aP, lI, l0, lS]
        have Mp := M.perm (pull0 ([(B21, row .u8 32 (ynK (yon q (yat r p)))), (Y, ykc (yon q (yat r p))), (B18, row .u8 32 (ynK (yon q (yat r p)))), (B15, row .u8 32 (ykK (yon q (yat r p)) ((yon q (yat r p)).e - 1))), (B12, row .u8 32 (ykK (yon q (yat r p)) ((yon q (yat r p)).e - 1))), (B9, row .u8 32 (ykK (yon q (yat r p)) ((yon q (yat r p)).e))), (B6, row .u8 32 (ykK (yon q (yat r p)) ((yon q (yat r p)).e))), (B1, row .u8 32 r)] : List (Nat × List Value)) bs ([] : List (Nat × List Value)))
        have key := hK.epo w0 _ _ (yon q (yat r p)) bs _ hkw hIa Mp
        clear Mp
        refine callH (i := 30) (some 125) rfl (by kernel_rfl) rfl rfl (fun _ => by kernel_rfl) key ?_
        clear key
        rintro e w24 ⟨rfl, l⟩
        replace M := M.call l
        clear l
        refine ⟨_, rfl, M, ?_⟩
        simp only [aP, lI, l0, lS]
        refine readHg (i := 35) (some 130) rfl (.bool false) rfl rfl (fun _ M => neqI .i64 _ _ _ _ _ _ rfl rfl rfl false (bne_self_eq_false _) _) M ?_
        simp only [aP, lI, l0, lS]
        refine readHg (i := 36) (some 131) rfl (.bool false) rfl rfl (fun _ M => (by kernel_rfl)) M ?_
        simp only [aP, lI, l0, lS]
        refine wpAnyH_done (by kernel_rfl) ?_ _
        first | show Exit.then _ _ _ _ _ | show Exit.inBlock _ _ _ _ _
        go_upto_region 19 with fail
        refine wp_region_list ?_
        refine readL (.pointer (some ⟨Ra, 0, none⟩)) rfl (by kernel_rfl) ?_
        simp only [aP, lI, l0, lS]
        have Mp := M.perm (pull0 ([(B21, row .u8 32 (ynK (yon q (yat r p)))), (Y, ykc (yon q (yat r p))), (B18, row .u8 32 (ynK (yon q (yat r p)))), (B15, row .u8 32 (ykK (yon q (yat r p)) ((yon q (yat r p)).e - 1))), (B12, row .u8 32 (ykK (yon q (yat r p)) ((yon q (yat r p)).e - 1))), (B9, row .u8 32 (ykK (yon q (yat r p)) ((yon q (yat r p)).e))), (B6, row .u8 32 (ykK (yon q (yat r p)) ((yon q (yat r p)).e))), (B1, row .u8 32 r)] : List (Nat × List Value)) bs ([] : List (Nat × List Value)))
        have key := hK.adv w0 _ _ (yon q (yat r p)) bs _ hg hkw hIa Mp
        clear Mp
        refine callL rfl (fun _ => by kernel_rfl) key ?_
        clear key
        rintro e w25 ⟨rfl, ba1, hI_, -, M', -⟩
        clear M hIa
        have hIa := hI_
        clear hI_
        have M : Mm w0 ((B21, row .u8 32 (ynK (yon q (yat r p)))) :: (Y, ykc (yon q (yat r p))) :: (B18, row .u8 32 (ynK (yon q (yat r p)))) :: (B15, row .u8 32 (ykK (yon q (yat r p)) ((yon q (yat r p)).e - 1))) :: (B12, row .u8 32 (ykK (yon q (yat r p)) ((yon q (yat r p)).e - 1))) :: (B9, row .u8 32 (ykK (yon q (yat r p)) ((yon q (yat r p)).e))) :: (B6, row .u8 32 (ykK (yon q (yat r p)) ((yon q (yat r p)).e))) :: (B1, row .u8 32 r) :: (ba1 ++ ([] : List (Nat × List Value)))) w25 := M'.perm (pull0 ([(B21, row .u8 32 (ynK (yon q (yat r p)))), (Y, ykc (yon q (yat r p))), (B18, row .u8 32 (ynK (yon q (yat r p)))), (B15, row .u8 32 (ykK (yon q (yat r p)) ((yon q (yat r p)).e - 1))), (B12, row .u8 32 (ykK (yon q (yat r p)) ((yon q (yat r p)).e - 1))), (B9, row .u8 32 (ykK (yon q (yat r p)) ((yon q (yat r p)).e))), (B6, row .u8 32 (ykK (yon q (yat r p)) ((yon q (yat r p)).e))), (B1, row .u8 32 r)] : List (Nat × List Value)) ba1 ([] : List (Nat × List Value))).symm
        clear M'
        refine ⟨_, rfl, ?_⟩
        simp only [aP, lI, l0, lS]
        refine readL (.pointer (some ⟨Y, 0, none⟩)) rfl (by kernel_rfl) ?_
        simp only [aP, lI, l0, lS]
        replace M := M.swap
        have key := ryadv_any w0 _ Y _ (yon q (yat r p)) hkw M
        refine callL rfl (fun _ => by kernel_rfl) key ?_
        clear key
        rintro e w26 ⟨rfl, M', -⟩
        clear M
        have M := M'
        clear M'
        replace M : Mm w0 ((Y, ykc (yon (q + 1) (yat r p))) :: (B21, row .u8 32 (ynK (yon q (yat r p)))) :: (B18, row .u8 32 (ynK (yon q (yat r p)))) :: (B15, row .u8 32 (ykK (yon q (yat r p)) ((yon q (yat r p)).e - 1))) :: (B12, row .u8 32 (ykK (yon q (yat r p)) ((yon q (yat r p)).e - 1))) :: (B9, row .u8 32 (ykK (yon q (yat r p)) ((yon q (yat r p)).e))) :: (B6, row .u8 32 (ykK (yon q (yat r p)) ((yon q (yat r p)).e))) :: (B1, row .u8 32 r) :: (ba1 ++ ([] : List (Nat × List Value)))) w26 := M
        refine ⟨_, rfl, ?_⟩
        simp only [aP, lI, l0, lS]
        refine readL (.bool false) rfl (neqI .i64 _ _ _ _ _ _ rfl rfl rfl false (bne_self_eq_false _) _) ?_
        simp only [aP, lI, l0, lS]
        first | show Exit.then _ _ _ _ _ | show Exit.inBlock _ _ _ _ _
        replace M : Mm w0 ((B1, row .u8 32 r) :: (Y, ykc (yon (q + 1) (yat r p))) :: (B21, row .u8 32 (ynK (yon q (yat r p)))) :: (B18, row .u8 32 (ynK (yon q (yat r p)))) :: (B15, row .u8 32 (ykK (yon q (yat r p)) ((yon q (yat r p)).e - 1))) :: (B12, row .u8 32 (ykK (yon q (yat r p)) ((yon q (yat r p)).e - 1))) :: (B9, row .u8 32 (ykK (yon q (yat r p)) ((yon q (yat r p)).e))) :: (B6, row .u8 32 (ykK (yon q (yat r p)) ((yon q (yat r p)).e))) :: (ba1 ++ ([] : List (Nat × List Value)))) w26 := M.perm (List.perm_middle (l₁ := [_, _, _, _, _, _, _]) (a := _) (l₂ := _))
        replace M := M.swap
        replace M : Mm w0 ((Y, ykc (yon (q + 1) (yat r p))) :: (B1, row .u8 32 r) :: (ba1 ++ ([] : List (Nat × List Value)))) w26 := M.sub _ (List.cons_sublist_cons.2 (List.cons_sublist_cons.2 (List.Sublist.cons _ (List.Sublist.cons _ (List.Sublist.cons _ (List.Sublist.cons _ (List.Sublist.cons _ (List.Sublist.cons _ (List.Sublist.refl _)))))))))
        have HS := show Hid _ from (show I (.pointer (some ⟨Ra, 0, none⟩)) (yon (q + 1) (yat r p)) ba1 ∧ Mm w0 ((Y, ykc (yon (q + 1) (yat r p))) :: (B1, row .u8 32 r) :: (ba1 ++ ([] : List (Nat × List Value)))) w26 from ⟨hIa, M⟩)
        clear M hIa hkw hlo hhi hN
        go_wp2
        go_roundw
        case rel => exact ⟨q + 1, _, by omega, by go_num, HS.out⟩
        case measure => simp [intOf]; omega
      · go_upto_region 9 with fail
        refine wp_region_list ?_
        refine readL (.int .i64 (q : Int)) rfl (by kernel_rfl) ?_
        simp only [aP, lI, l0, lS]
        refine readL (.int .i64 (-(z + 1))) rfl (by kernel_rfl) ?_
        simp only [aP, lI, l0, lS]
        refine readL (.int .i64 (N : Int)) rfl (remI .i64 _ _ _ _ _ _ _ rfl rfl rfl (by decide) hN _) ?_
        simp only [aP, lI, l0, lS]
        refine readL (.bool false) rfl (leqI .i64 _ _ _ _ _ _ rfl rfl rfl false (decide_eq_false (by omega)) _) ?_
        simp only [aP, lI, l0, lS]
        first | show Exit.then _ _ _ _ _ | show Exit.inBlock _ _ _ _ _
        go_upto_region 21 with fail
        refine wp_region_list ?_
        refine readL (.bool true) rfl (by kernel_rfl) ?_
        simp only [aP, lI, l0, lS]
        first | show Exit.then _ _ _ _ _ | show Exit.inBlock _ _ _ _ _
        have hbel := M.below
        clear M
        go_wp2
        go_ret
        exact ⟨rfl, hbel⟩
  · go_upto_region 6 with fail
    refine wp_region_list ?_
    refine readL (.int .i64 z) rfl (by kernel_rfl) ?_
    simp only [aP, lI, l0, lS]
    refine readL (.bool false) rfl (lssI .i64 _ _ _ _ _ _ rfl rfl rfl false (decide_eq_false hneg) _) ?_
    simp only [aP, lI, l0, lS]
    first | show Exit.then _ _ _ _ _ | show Exit.inBlock _ _ _ _ _
    obtain ⟨N, hN, hN2⟩ := tmod_nat15 z (by omega) 6 (by decide)
    go_upto_region 8 with fail
    refine wp_region_list ?_
    refine readL (.int .i64 0) rfl (by kernel_rfl) ?_
    simp only [aP, lI, l0, lS]
    first | show Exit.then _ _ _ _ _ | show Exit.inBlock _ _ _ _ _
    have HI := show Hid _ from (show I (.pointer (some ⟨Ra, 0, none⟩)) (yon 0 (yat r p)) ba0 ∧ Mm w0 ((Y, ykc (yon 0 (yat r p))) :: (B1, row .u8 32 r) :: (ba0 ++ ([] : List (Nat × List Value)))) w4 from ⟨hIa, M⟩)
    have hN' := show Hid _ from hN
    clear M hIa hN
    go_wp2
    go_loopw [10] (fun i w' => ∃ (q : Nat) (bs : List (Nat × List Value)), q ≤ N + 1 ∧ i = .int .i64 (q : Int) ∧ I (.pointer (some ⟨Ra, 0, none⟩)) (yon q (yat r p)) bs ∧ Mm w0 ((Y, ykc (yon q (yat r p))) :: (B1, row .u8 32 r) :: (bs ++ ([] : List (Nat × List Value)))) w') (fun i _ => N + 1 - (intOf i).toNat)
    case atStart => exact ⟨0, _, by omega, rfl, HI.out⟩
    case round =>
      clear HI
      obtain ⟨q, bs, hq, rfl, hIa, M⟩ := hrel
      have hN := hN'.out
      have hkw := yon_w (yat_w hr p) q
      have hlo := hkw.lo
      have hhi := hkw.hi
      by_cases hlt : q ≤ N
      · go_upto_region 9 with fail
        refine wp_region_list ?_
        refine readL (.int .i64 (q : Int)) rfl (by kernel_rfl) ?_
        simp only [aP, lI, l0, lS]
        refine readL (.int .i64 z) rfl (by kernel_rfl) ?_
        simp only [aP, lI, l0, lS]
        refine readL (.int .i64 (N : Int)) rfl (remI .i64 _ _ _ _ _ _ _ rfl rfl rfl (by decide) hN _) ?_
        simp only [aP, lI, l0, lS]
        refine readL (.bool true) rfl (leqI .i64 _ _ _ _ _ _ rfl rfl rfl true (decide_eq_true (by omega)) _) ?_
        simp only [aP, lI, l0, lS]
        first | show Exit.then _ _ _ _ _ | show Exit.inBlock _ _ _ _ _
        go_upto_region 11 with fail
        refine wp_region_list ?_
        refine readL (.pointer (some ⟨Ra, 0, none⟩)) rfl (by kernel_rfl) ?_
        simp only [aP, lI, l0, lS]
        refine readL (.pointer (some ⟨Y, 0, none⟩)) rfl (by kernel_rfl) ?_
        simp only [aP, lI, l0, lS]
        refine readL (.pointer (some ⟨Y, 0, none⟩)) rfl (by kernel_rfl) ?_
        simp only [aP, lI, l0, lS]
        refine readL (.pointer (some ⟨Y, 0, none⟩)) rfl (by kernel_rfl) ?_
        simp only [aP, lI, l0, lS]
        refine readL (.int .i64 ((yon q (yat r p)).e)) rfl (load1 3 _ ⟨Y, 0, none⟩ _ rfl rfl (fun _ => by kernel_rfl) (M.get mS 0 _ rfl)) ?_
        simp only [aP, lI, l0, lS]
        have Mp := M.perm (pull0 ([(Y, ykc (yon q (yat r p))), (B1, row .u8 32 r)] : List (Nat × List Value)) bs ([] : List (Nat × List Value)))
        have key := hK.key w0 _ _ (yon q (yat r p)) bs _ ((yon q (yat r p)).e) hg hkw (by unfold i64; omega) hIa Mp
        clear Mp
        refine callL rfl (fun _ => by kernel_rfl) key ?_
        clear key
        rintro e w27 ⟨rfl, l⟩
        replace M := M.call l
        clear l
        refine ⟨_, rfl, ?_⟩
        simp only [aP, lI, l0, lS]
        refine readL (.tuple #[.agg (row .u8 32 (ykK (yon q (yat r p)) ((yon q (yat r p)).e))).toArray, .int .i64 (ykE (yon q (yat r p)) ((yon q (yat r p)).e))]) rfl (by kernel_rfl) ?_
        simp only [aP, lI, l0, lS]
        refine readL (.agg (row .u8 32 (ykK (yon q (yat r p)) ((yon q (yat r p)).e))).toArray) rfl (by kernel_rfl) ?_
        simp only [aP, lI, l0, lS]
        refine readL (.int .i64 (ykE (yon q (yat r p)) ((yon q (yat r p)).e))) rfl (by kernel_rfl) ?_
        simp only [aP, lI, l0, lS]
        refine actL (w' := w27.alloc (.cells zu8_32 23)) (.pointer (some ⟨w27.heap.size, 0, none⟩)) rfl (by kernel_rfl) ?_
        simp only [aP, lI, l0, lS]
        replace M := M.box zu8_32 23 w27.heap.size rfl
        generalize w27.alloc (.cells zu8_32 23) = w28 at M ⊢
        generalize w27.heap.size = B28 at M ⊢
        replace M : Mm w0 ((B28, row .u8 32 (fun _ => 0)) :: (Y, ykc (yon q (yat r p))) :: (B1, row .u8 32 r) :: (bs ++ ([] : List (Nat × List Value)))) w28 := M
        refine skipOpL rfl (storeP (row .u8 32 (ykK (yon q (yat r p)) ((yon q (yat r p)).e))) B28 0 23 _ _ rfl rfl rfl (M.thereP mS 0 32 (Nat.le_of_ble_eq_true rfl)) (by kernel_rfl) (row_one .u8 32 (ykK (yon q (yat r p)) ((yon q (yat r p)).e)))) ?_
        simp only [Act.put]
        replace M := M.setAll (row .u8 32 (ykK (yon q (yat r p)) ((yon q (yat r p)).e))) (by first | (rw [row32, row32]; done) | (rw [row32]; rfl) | (rw [row32]; done))
        generalize w28.setCells B28 0 (row .u8 32 (ykK (yon q (yat r p)) ((yon q (yat r p)).e))) = w29 at M  ⊢
        refine readL (.int .i64 (ykE (yon q (yat r p)) ((yon q (yat r p)).e))) rfl (by kernel_rfl) ?_
        simp only [aP, lI, l0, lS]
        first | show Exit.then _ _ _ _ _ | show Exit.inBlock _ _ _ _ _
        go_upto_region 12 with fail
        refine wp_region_list ?_
        refine readL (.pointer (some ⟨Y, 0, none⟩)) rfl (by kernel_rfl) ?_
        simp only [aP, lI, l0, lS]
        refine readL (.pointer (some ⟨Y, 0, none⟩)) rfl (by kernel_rfl) ?_
        simp only [aP, lI, l0, lS]
        refine readL (.pointer (some ⟨Y, 0, none⟩)) rfl (by kernel_rfl) ?_
        simp only [aP, lI, l0, lS]
        refine readL (.pointer (some ⟨Y, 0, none⟩)) rfl (by kernel_rfl) ?_
        simp only [aP, lI, l0, lS]
        refine readL (.int .i64 ((yon q (yat r p)).e)) rfl (load1 3 _ ⟨Y, 0, none⟩ _ rfl rfl (fun _ => by kernel_rfl) (M.get (mT _ mS) 0 _ rfl)) ?_
        simp only [aP, lI, l0, lS]
        replace M := M.swap
        have key := rykey_any w0 _ Y _ (yon q (yat r p)) hkw ((yon q (yat r p)).e) M
        refine callL rfl (fun _ => by kernel_rfl) key ?_
        clear key
        rintro e w30 ⟨rfl, l⟩
        replace M := M.call l
        clear l
        refine ⟨_, rfl, ?_⟩
        simp only [aP, lI, l0, lS]
        refine readL (.tuple #[.agg (row .u8 32 (ykK (yon q (yat r p)) ((yon q (yat r p)).e))).toArray, .int .i64 (ykE (yon q (yat r p)) ((yon q (yat r p)).e))]) rfl (by kernel_rfl) ?_
        simp only [aP, lI, l0, lS]
        refine readL (.agg (row .u8 32 (ykK (yon q (yat r p)) ((yon q (yat r p)).e))).toArray) rfl (by kernel_rfl) ?_
        simp only [aP, lI, l0, lS]
        refine readL (.int .i64 (ykE (yon q (yat r p)) ((yon q (yat r p)).e))) rfl (by kernel_rfl) ?_
        simp only [aP, lI, l0, lS]
        refine actL (w' := w30.alloc (.cells zu8_32 23)) (.pointer (some ⟨w30.heap.size, 0, none⟩)) rfl (by kernel_rfl) ?_
        simp only [aP, lI, l0, lS]
        replace M := M.box zu8_32 23 w30.heap.size rfl
        generalize w30.alloc (.cells zu8_32 23) = w31 at M ⊢
        generalize w30.heap.size = B31 at M ⊢
        replace M : Mm w0 ((B31, row .u8 32 (fun _ => 0)) :: (Y, ykc (yon q (yat r p))) :: (B28, row .u8 32 (ykK (yon q (yat r p)) ((yon q (yat r p)).e))) :: (B1, row .u8 32 r) :: (bs ++ ([] : List (Nat × List Value)))) w31 := M
        refine skipOpL rfl (storeP (row .u8 32 (ykK (yon q (yat r p)) ((yon q (yat r p)).e))) B31 0 23 _ _ rfl rfl rfl (M.thereP mS 0 32 (Nat.le_of_ble_eq_true rfl)) (by kernel_rfl) (row_one .u8 32 (ykK (yon q (yat r p)) ((yon q (yat r p)).e)))) ?_
        simp only [Act.put]
        replace M := M.setAll (row .u8 32 (ykK (yon q (yat r p)) ((yon q (yat r p)).e))) (by first | (rw [row32, row32]; done) | (rw [row32]; rfl) | (rw [row32]; done))
        generalize w31.setCells B31 0 (row .u8 32 (ykK (yon q (yat r p)) ((yon q (yat r p)).e))) = w32 at M  ⊢
        refine readL (.int .i64 (ykE (yon q (yat r p)) ((yon q (yat r p)).e))) rfl (by kernel_rfl) ?_
        simp only [aP, lI, l0, lS]
        first | show Exit.then _ _ _ _ _ | show Exit.inBlock _ _ _ _ _
        go_upto_region 13 with fail
        refine wp_region_list ?_
        refine readL (.pointer (some ⟨Ra, 0, none⟩)) rfl (by kernel_rfl) ?_
        simp only [aP, lI, l0, lS]
        refine readL (.pointer (some ⟨Y, 0, none⟩)) rfl (by kernel_rfl) ?_
        simp only [aP, lI, l0, lS]
        refine readL (.pointer (some ⟨Y, 0, none⟩)) rfl (by kernel_rfl) ?_
        simp only [aP, lI, l0, lS]
        refine readL (.pointer (some ⟨Y, 0, none⟩)) rfl (by kernel_rfl) ?_
        simp only [aP, lI, l0, lS]
        refine readL (.int .i64 ((yon q (yat r p)).e)) rfl (load1 3 _ ⟨Y, 0, none⟩ _ rfl rfl (fun _ => by kernel_rfl) (M.get (mT _ mS) 0 _ rfl)) ?_
        simp only [aP, lI, l0, lS]
        refine readL (.int .i64 ((yon q (yat r p)).e - 1)) rfl (subI .i64 _ _ _ _ _ _ _ rfl rfl rfl (by rw [IntKind.wrap_i64]; omega) _) ?_
        simp only [aP, lI, l0, lS]
        have Mp := M.perm (pull0 ([(B31, row .u8 32 (ykK (yon q (yat r p)) ((yon q (yat r p)).e))), (Y, ykc (yon q (yat r p))), (B28, row .u8 32 (ykK (yon q (yat r p)) ((yon q (yat r p)).e))), (B1, row .u8 32 r)] : List (Nat × List Value)) bs ([] : List (Nat × List Value)))
        have key := hK.key w0 _ _ (yon q (yat r p)) bs _ ((yon q (yat r p)).e - 1) hg hkw (by unfold i64; omega) hIa Mp
        clear Mp
        refine callL rfl (fun _ => by kernel_rfl) key ?_
        clear key
        rintro e w33 ⟨rfl, l⟩
        replace M := M.call l
        clear l
        refine ⟨_, rfl, ?_⟩
        simp only [aP, lI, l0, lS]
        refine readL (.tuple #[.agg (row .u8 32 (ykK (yon q (yat r p)) ((yon q (yat r p)).e - 1))).toArray, .int .i64 (ykE (yon q (yat r p)) ((yon q (yat r p)).e - 1))]) rfl (by kernel_rfl) ?_
        simp only [aP, lI, l0, lS]
        refine readL (.agg (row .u8 32 (ykK (yon q (yat r p)) ((yon q (yat r p)).e - 1))).toArray) rfl (by kernel_rfl) ?_
        simp only [aP, lI, l0, lS]
        refine readL (.int .i64 (ykE (yon q (yat r p)) ((yon q (yat r p)).e - 1))) rfl (by kernel_rfl) ?_
        simp only [aP, lI, l0, lS]
        refine actL (w' := w33.alloc (.cells zu8_32 23)) (.pointer (some ⟨w33.heap.size, 0, none⟩)) rfl (by kernel_rfl) ?_
        simp only [aP, lI, l0, lS]
        replace M := M.box zu8_32 23 w33.heap.size rfl
        generalize w33.alloc (.cells zu8_32 23) = w34 at M ⊢
        generalize w33.heap.size = B34 at M ⊢
        replace M : Mm w0 ((B34, row .u8 32 (fun _ => 0)) :: (B31, row .u8 32 (ykK (yon q (yat r p)) ((yon q (yat r p)).e))) :: (Y, ykc (yon q (yat r p))) :: (B28, row .u8 32 (ykK (yon q (yat r p)) ((yon q (yat r p)).e))) :: (B1, row .u8 32 r) :: (bs ++ ([] : List (Nat × List Value)))) w34 := M
        refine skipOpL rfl (storeP (row .u8 32 (ykK (yon q (yat r p)) ((yon q (yat r p)).e - 1))) B34 0 23 _ _ rfl rfl rfl (M.thereP mS 0 32 (Nat.le_of_ble_eq_true rfl)) (by kernel_rfl) (row_one .u8 32 (ykK (yon q (yat r p)) ((yon q (yat r p)).e - 1)))) ?_
        simp only [Act.put]
        replace M := M.setAll (row .u8 32 (ykK (yon q (yat r p)) ((yon q (yat r p)).e - 1))) (by first | (rw [row32, row32]; done) | (rw [row32]; rfl) | (rw [row32]; done))
        generalize w34.setCells B34 0 (row .u8 32 (ykK (yon q (yat r p)) ((yon q (yat r p)).e - 1))) = w35 at M  ⊢
        refine readL (.int .i64 (ykE (yon q (yat r p)) ((yon q (yat r p)).e - 1))) rfl (by kernel_rfl) ?_
        simp only [aP, lI, l0, lS]
        first | show Exit.then _ _ _ _ _ | show Exit.inBlock _ _ _ _ _
        go_upto_region 14 with fail
        refine wp_region_list ?_
        refine readL (.pointer (some ⟨Y, 0, none⟩)) rfl (by kernel_rfl) ?_
        simp only [aP, lI, l0, lS]
        refine readL (.pointer (some ⟨Y, 0, none⟩)) rfl (by kernel_rfl) ?_
        simp only [aP, lI, l0, lS]
        refine readL (.pointer (some ⟨Y, 0, none⟩)) rfl (by kernel_rfl) ?_
        simp only [aP, lI, l0, lS]
        refine readL (.pointer (some ⟨Y, 0, none⟩)) rfl (by kernel_rfl) ?_
        simp only [aP, lI, l0, lS]
        refine readL (.int .i64 ((yon q (yat r p)).e)) rfl (load1 3 _ ⟨Y, 0, none⟩ _ rfl rfl (fun _ => by kernel_rfl) (M.get (mT _ (mT _ mS)) 0 _ rfl)) ?_
        simp only [aP, lI, l0, lS]
        refine readL (.int .i64 ((yon q (yat r p)).e - 1)) rfl (subI .i64 _ _ _ _ _ _ _ rfl rfl rfl (by rw [IntKind.wrap_i64]; omega) _) ?_
        simp only [aP, lI, l0, lS]
        replace M := M.rot3
        have key := rykey_any w0 _ Y _ (yon q (yat r p)) hkw ((yon q (yat r p)).e - 1) M
        refine callL rfl (fun _ => by kernel_rfl) key ?_
        clear key
        rintro e w36 ⟨rfl, l⟩
        replace M := M.call l
        clear l
        refine ⟨_, rfl, ?_⟩
        simp only [aP, lI, l0, lS]
        refine readL (.tuple #[.agg (row .u8 32 (ykK (yon q (yat r p)) ((yon q (yat r p)).e - 1))).toArray, .int .i64 (ykE (yon q (yat r p)) ((yon q (yat r p)).e - 1))]) rfl (by kernel_rfl) ?_
        simp only [aP, lI, l0, lS]
        refine readL (.agg (row .u8 32 (ykK (yon q (yat r p)) ((yon q (yat r p)).e - 1))).toArray) rfl (by kernel_rfl) ?_
        simp only [aP, lI, l0, lS]
        refine readL (.int .i64 (ykE (yon q (yat r p)) ((yon q (yat r p)).e - 1))) rfl (by kernel_rfl) ?_
        simp only [aP, lI, l0, lS]
        refine actL (w' := w36.alloc (.cells zu8_32 23)) (.pointer (some ⟨w36.heap.size, 0, none⟩)) rfl (by kernel_rfl) ?_
        simp only [aP, lI, l0, lS]
        replace M := M.box zu8_32 23 w36.heap.size rfl
        generalize w36.alloc (.cells zu8_32 23) = w37 at M ⊢
        generalize w36.heap.size = B37 at M ⊢
        replace M : Mm w0 ((B37, row .u8 32 (fun _ => 0)) :: (Y, ykc (yon q (yat r p))) :: (B34, row .u8 32 (ykK (yon q (yat r p)) ((yon q (yat r p)).e - 1))) :: (B31, row .u8 32 (ykK (yon q (yat r p)) ((yon q (yat r p)).e))) :: (B28, row .u8 32 (ykK (yon q (yat r p)) ((yon q (yat r p)).e))) :: (B1, row .u8 32 r) :: (bs ++ ([] : List (Nat × List Value)))) w37 := M
        refine skipOpL rfl (storeP (row .u8 32 (ykK (yon q (yat r p)) ((yon q (yat r p)).e - 1))) B37 0 23 _ _ rfl rfl rfl (M.thereP mS 0 32 (Nat.le_of_ble_eq_true rfl)) (by kernel_rfl) (row_one .u8 32 (ykK (yon q (yat r p)) ((yon q (yat r p)).e - 1)))) ?_
        simp only [Act.put]
        replace M := M.setAll (row .u8 32 (ykK (yon q (yat r p)) ((yon q (yat r p)).e - 1))) (by first | (rw [row32, row32]; done) | (rw [row32]; rfl) | (rw [row32]; done))
        generalize w37.setCells B37 0 (row .u8 32 (ykK (yon q (yat r p)) ((yon q (yat r p)).e - 1))) = w38 at M  ⊢
        refine readL (.int .i64 (ykE (yon q (yat r p)) ((yon q (yat r p)).e - 1))) rfl (by kernel_rfl) ?_
        simp only [aP, lI, l0, lS]
        first | show Exit.then _ _ _ _ _ | show Exit.inBlock _ _ _ _ _
        go_upto_region 15 with fail
        refine wp_region_list ?_
        refine readL (.pointer (some ⟨Ra, 0, none⟩)) rfl (by kernel_rfl) ?_
        simp only [aP, lI, l0, lS]
        have Mp := M.perm (pull0 ([(B37, row .u8 32 (ykK (yon q (yat r p)) ((yon q (yat r p)).e - 1))), (Y, ykc (yon q (yat r p))), (B34, row .u8 32 (ykK (yon q (yat r p)) ((yon q (yat r p)).e - 1))), (B31, row .u8 32 (ykK (yon q (yat r p)) ((yon q (yat r p)).e))), (B28, row .u8 32 (ykK (yon q (yat r p)) ((yon q (yat r p)).e))), (B1, row .u8 32 r)] : List (Nat × List Value)) bs ([] : List (Nat × List Value)))
        have key := hK.nxt w0 _ _ (yon q (yat r p)) bs _ hg hkw hIa Mp
        clear Mp
        refine callL rfl (fun _ => by kernel_rfl) key ?_
        clear key
        rintro e w39 ⟨rfl, l⟩
        replace M := M.call l
        clear l
        refine ⟨_, rfl, ?_⟩
        simp only [aP, lI, l0, lS]
        refine readL (.tuple #[.agg (row .u8 32 (ynK (yon q (yat r p)))).toArray, .int .i64 (ynE (yon q (yat r p)))]) rfl (by kernel_rfl) ?_
        simp only [aP, lI, l0, lS]
        refine readL (.agg (row .u8 32 (ynK (yon q (yat r p)))).toArray) rfl (by kernel_rfl) ?_
        simp only [aP, lI, l0, lS]
        refine readL (.int .i64 (ynE (yon q (yat r p)))) rfl (by kernel_rfl) ?_
        simp only [aP, lI, l0, lS]
        refine actL (w' := w39.alloc (.cells zu8_32 23)) (.pointer (some ⟨w39.heap.size, 0, none⟩)) rfl (by kernel_rfl) ?_
        simp only [aP, lI, l0, lS]
        replace M := M.box zu8_32 23 w39.heap.size rfl
        generalize w39.alloc (.cells zu8_32 23) = w40 at M ⊢
        generalize w39.heap.size = B40 at M ⊢
        replace M : Mm w0 ((B40, row .u8 32 (fun _ => 0)) :: (B37, row .u8 32 (ykK (yon q (yat r p)) ((yon q (yat r p)).e - 1))) :: (Y, ykc (yon q (yat r p))) :: (B34, row .u8 32 (ykK (yon q (yat r p)) ((yon q (yat r p)).e - 1))) :: (B31, row .u8 32 (ykK (yon q (yat r p)) ((yon q (yat r p)).e))) :: (B28, row .u8 32 (ykK (yon q (yat r p)) ((yon q (yat r p)).e))) :: (B1, row .u8 32 r) :: (bs ++ ([] : List (Nat × List Value)))) w40 := M
        refine skipOpL rfl (storeP (row .u8 32 (ynK (yon q (yat r p)))) B40 0 23 _ _ rfl rfl rfl (M.thereP mS 0 32 (Nat.le_of_ble_eq_true rfl)) (by kernel_rfl) (row_one .u8 32 (ynK (yon q (yat r p))))) ?_
        simp only [Act.put]
        replace M := M.setAll (row .u8 32 (ynK (yon q (yat r p)))) (by first | (rw [row32, row32]; done) | (rw [row32]; rfl) | (rw [row32]; done))
        generalize w40.setCells B40 0 (row .u8 32 (ynK (yon q (yat r p)))) = w41 at M  ⊢
        refine readL (.int .i64 (ynE (yon q (yat r p)))) rfl (by kernel_rfl) ?_
        simp only [aP, lI, l0, lS]
        first | show Exit.then _ _ _ _ _ | show Exit.inBlock _ _ _ _ _
        go_upto_region 16 with fail
        refine wp_region_list ?_
        refine readL (.pointer (some ⟨Y, 0, none⟩)) rfl (by kernel_rfl) ?_
        simp only [aP, lI, l0, lS]
        replace M := M.rot3
        have key := rynext_any w0 _ Y _ (yon q (yat r p)) hkw M
        refine callL rfl (fun _ => by kernel_rfl) key ?_
        clear key
        rintro e w42 ⟨rfl, l⟩
        replace M := M.call l
        clear l
        refine ⟨_, rfl, ?_⟩
        simp only [aP, lI, l0, lS]
        refine readL (.tuple #[.agg (row .u8 32 (ynK (yon q (yat r p)))).toArray, .int .i64 (ynE (yon q (yat r p)))]) rfl (by kernel_rfl) ?_
        simp only [aP, lI, l0, lS]
        refine readL (.agg (row .u8 32 (ynK (yon q (yat r p)))).toArray) rfl (by kernel_rfl) ?_
        simp only [aP, lI, l0, lS]
        refine readL (.int .i64 (ynE (yon q (yat r p)))) rfl (by kernel_rfl) ?_
        simp only [aP, lI, l0, lS]
        refine actL (w' := w42.alloc (.cells zu8_32 23)) (.pointer (some ⟨w42.heap.size, 0, none⟩)) rfl (by kernel_rfl) ?_
        simp only [aP, lI, l0, lS]
        replace M := M.box zu8_32 23 w42.heap.size rfl
        generalize w42.alloc (.cells zu8_32 23) = w43 at M ⊢
        generalize w42.heap.size = B43 at M ⊢
        replace M : Mm w0 ((B43, row .u8 32 (fun _ => 0)) :: (Y, ykc (yon q (yat r p))) :: (B40, row .u8 32 (ynK (yon q (yat r p)))) :: (B37, row .u8 32 (ykK (yon q (yat r p)) ((yon q (yat r p)).e - 1))) :: (B34, row .u8 32 (ykK (yon q (yat r p)) ((yon q (yat r p)).e - 1))) :: (B31, row .u8 32 (ykK (yon q (yat r p)) ((yon q (yat r p)).e))) :: (B28, row .u8 32 (ykK (yon q (yat r p)) ((yon q (yat r p)).e))) :: (B1, row .u8 32 r) :: (bs ++ ([] : List (Nat × List Value)))) w43 := M
        refine skipOpL rfl (storeP (row .u8 32 (ynK (yon q (yat r p)))) B43 0 23 _ _ rfl rfl rfl (M.thereP mS 0 32 (Nat.le_of_ble_eq_true rfl)) (by kernel_rfl) (row_one .u8 32 (ynK (yon q (yat r p))))) ?_
        simp only [Act.put]
        replace M := M.setAll (row .u8 32 (ynK (yon q (yat r p)))) (by first | (rw [row32, row32]; done) | (rw [row32]; rfl) | (rw [row32]; done))
        generalize w43.setCells B43 0 (row .u8 32 (ynK (yon q (yat r p)))) = w44 at M  ⊢
        refine readL (.int .i64 (ynE (yon q (yat r p)))) rfl (by kernel_rfl) ?_
        simp only [aP, lI, l0, lS]
        first | show Exit.then _ _ _ _ _ | show Exit.inBlock _ _ _ _ _
        go_upto_region 17 with fail
        refine wp_region_held_drew (S := fun w' => Mm w0 ((B43, row .u8 32 (ynK (yon q (yat r p)))) :: (Y, ykc (yon q (yat r p))) :: (B40, row .u8 32 (ynK (yon q (yat r p)))) :: (B37, row .u8 32 (ykK (yon q (yat r p)) ((yon q (yat r p)).e - 1))) :: (B34, row .u8 32 (ykK (yon q (yat r p)) ((yon q (yat r p)).e - 1))) :: (B31, row .u8 32 (ykK (yon q (yat r p)) ((yon q (yat r p)).e))) :: (B28, row .u8 32 (ykK (yon q (yat r p)) ((yon q (yat r p)).e))) :: (B1, row .u8 32 r) :: (bs ++ ([] : List (Nat × List Value)))) w') (by kernel_rfl) M.drew ?_
        clear M
        intro M
        have hdr := (Below.refl w44.heap.size w44).drew
        clear hdr
        generalize w44.drew = w45 at M  ⊢
        refine readHg (i := 0) (some 95) rfl (.agg (row .u8 32 (ykK (yon q (yat r p)) ((yon q (yat r p)).e))).toArray) rfl rfl (fun _ M => loadN 23 _ ⟨B28, 0, none⟩ (row .u8 32 (ykK (yon q (yat r p)) ((yon q (yat r p)).e))) rfl rfl (fun _ => by kernel_rfl) (fun _ => by rw [row32]; kernel_rfl) (M.part (mT _ (mT _ (mT _ (mT _ (mT _ (mT _ mS)))))) 0 _ (by rw [List.drop_zero, List.take_length]))) M ?_
        simp only [aP, lI, l0, lS]
        refine readHg (i := 1) (some 96) rfl (.agg (row .u8 32 (ykK (yon q (yat r p)) ((yon q (yat r p)).e))).toArray) rfl rfl (fun _ M => loadN 23 _ ⟨B31, 0, none⟩ (row .u8 32 (ykK (yon q (yat r p)) ((yon q (yat r p)).e))) rfl rfl (fun _ => by kernel_rfl) (fun _ => by rw [row32]; kernel_rfl) (M.part (mT _ (mT _ (mT _ (mT _ (mT _ mS))))) 0 _ (by rw [List.drop_zero, List.take_length]))) M ?_
        simp only [aP, lI, l0, lS]
        refine readHg (i := 2) (some 97) rfl (.bool false) rfl rfl (fun _ M => neqV 32 (ykK (yon q (yat r p)) ((yon q (yat r p)).e)) (ykK (yon q (yat r p)) ((yon q (yat r p)).e)) 23 5 _ _ _ rfl rfl rfl Tryd.underlying23 Tryd.underlying5 (fun _ => by kernel_rfl) (by kernel_rfl) (ykK_in _ _) (ykK_in _ _) false (by rw [decide_eq_true rfl]; rfl) _) M ?_
        simp only [aP, lI, l0, lS]
        refine readHg (i := 3) (some 98) rfl (.bool false) rfl rfl (fun _ M => (by kernel_rfl)) M ?_
        simp only [aP, lI, l0, lS]
        refine readHg (i := 4) (some 99) rfl (.int .i64 (ykE (yon q (yat r p)) ((yon q (yat r p)).e))) rfl rfl (fun _ M => (by kernel_rfl)) M ?_
        simp only [aP, lI, l0, lS]
        refine readHg (i := 5) (some 100) rfl (.int .i64 (ykE (yon q (yat r p)) ((yon q (yat r p)).e))) rfl rfl (fun _ M => (by kernel_rfl)) M ?_
        simp only [aP, lI, l0, lS]
        refine readHg (i := 6) (some 101) rfl (.bool false) rfl rfl (fun _ M => neqI .i64 _ _ _ _ _ _ rfl rfl rfl false (bne_self_eq_false _) _) M ?_
        simp only [aP, lI, l0, lS]
        refine readHg (i := 7) (some 102) rfl (.bool false) rfl rfl (fun _ M => (by kernel_rfl)) M ?_
        simp only [aP, lI, l0, lS]
        refine readHg (i := 8) (some 103) rfl (.bool false) rfl rfl (fun _ M => (by kernel_rfl)) M ?_
        simp only [aP, lI, l0, lS]
        refine readHg (i := 9) (some 104) rfl (.agg (row .u8 32 (ykK (yon q (yat r p)) ((yon q (yat r p)).e - 1))).toArray) rfl rfl (fun _ M => loadN 23 _ ⟨B34, 0, none⟩ (row .u8 32 (ykK (yon q (yat r p)) ((yon q (yat r p)).e - 1))) rfl rfl (fun _ => by kernel_rfl) (fun _ => by rw [row32]; kernel_rfl) (M.part (mT _ (mT _ (mT _ (mT _ mS)))) 0 _ (by rw [List.drop_zero, List.take_length]))) M ?_
        simp only [aP, lI, l0, lS]
        refine readHg (i := 10) (some 105) rfl (.agg (row .u8 32 (ykK (yon q (yat r p)) ((yon q (yat r p)).e - 1))).toArray) rfl rfl (fun _ M => loadN 23 _ ⟨B37, 0, none⟩ (row .u8 32 (ykK (yon q (yat r p)) ((yon q (yat r p)).e - 1))) rfl rfl (fun _ => by kernel_rfl) (fun _ => by rw [row32]; kernel_rfl) (M.part (mT _ (mT _ (mT _ mS))) 0 _ (by rw [List.drop_zero, List.take_length]))) M ?_
        simp only [aP, lI, l0, lS]
        refine readHg (i := 11) (some 106) rfl (.bool false) rfl rfl (fun _ M => neqV 32 (ykK (yon q (yat r p)) ((yon q (yat r p)).e - 1)) (ykK (yon q (yat r p)) ((yon q (yat r p)).e - 1)) 23 5 _ _ _ rfl rfl rfl Tryd.underlying23 Tryd.underlying5 (fun _ => by kernel_rfl) (by kernel_rfl) (ykK_in _ _) (ykK_in _ _) false (by rw [decide_eq_true rfl]; rfl) _) M ?_
        simp only [aP, lI, l0, lS]
        refine readHg (i := 12) (some 107) rfl (.bool false) rfl rfl (fun _ M => (by kernel_rfl)) M ?_
        simp only [aP, lI, l0, lS]
        refine readHg (i := 13) (some 108) rfl (.bool false) rfl rfl (fun _ M => (by kernel_rfl)) M ?_
        simp only [aP, lI, l0, lS]
        refine readHg (i := 14) (some 109) rfl (.int .i64 (ykE (yon q (yat r p)) ((yon q (yat r p)).e - 1))) rfl rfl (fun _ M => (by kernel_rfl)) M ?_
        simp only [aP, lI, l0, lS]
        refine readHg (i := 15) (some 110) rfl (.int .i64 (ykE (yon q (yat r p)) ((yon q (yat r p)).e - 1))) rfl rfl (fun _ M => (by kernel_rfl)) M ?_
        simp only [aP, lI, l0, lS]
        refine readHg (i := 16) (some 111) rfl (.bool false) rfl rfl (fun _ M => neqI .i64 _ _ _ _ _ _ rfl rfl rfl false (bne_self_eq_false _) _) M ?_
        simp only [aP, lI, l0, lS]
        refine readHg (i := 17) (some 112) rfl (.bool false) rfl rfl (fun _ M => (by kernel_rfl)) M ?_
        simp only [aP, lI, l0, lS]
        refine readHg (i := 18) (some 113) rfl (.bool false) rfl rfl (fun _ M => (by kernel_rfl)) M ?_
        simp only [aP, lI, l0, lS]
        refine readHg (i := 19) (some 114) rfl (.agg (row .u8 32 (ynK (yon q (yat r p)))).toArray) rfl rfl (fun _ M => loadN 23 _ ⟨B40, 0, none⟩ (row .u8 32 (ynK (yon q (yat r p)))) rfl rfl (fun _ => by kernel_rfl) (fun _ => by rw [row32]; kernel_rfl) (M.part (mT _ (mT _ mS)) 0 _ (by rw [List.drop_zero, List.take_length]))) M ?_
        simp only [aP, lI, l0, lS]
        refine readHg (i := 20) (some 115) rfl (.agg (row .u8 32 (ynK (yon q (yat r p)))).toArray) rfl rfl (fun _ M => loadN 23 _ ⟨B43, 0, none⟩ (row .u8 32 (ynK (yon q (yat r p)))) rfl rfl (fun _ => by kernel_rfl) (fun _ => by rw [row32]; kernel_rfl) (M.part mS 0 _ (by rw [List.drop_zero, List.take_length]))) M ?_
        simp only [aP, lI, l0, lS]
        refine readHg (i := 21) (some 116) rfl (.bool false) rfl rfl (fun _ M => neqV 32 (ynK (yon q (yat r p))) (ynK (yon q (yat r p))) 23 5 _ _ _ rfl rfl rfl Tryd.underlying23 Tryd.underlying5 (fun _ => by kernel_rfl) (by kernel_rfl) (ynK_in _) (ynK_in _) false (by rw [decide_eq_true rfl]; rfl) _) M ?_
        simp only [aP, lI, l0, lS]
        refine readHg (i := 22) (some 117) rfl (.bool false) rfl rfl (fun _ M => (by kernel_rfl)) M ?_
        simp only [aP, lI, l0, lS]
        refine readHg (i := 23) (some 118) rfl (.bool false) rfl rfl (fun _ M => (by kernel_rfl)) M ?_
        simp only [aP, lI, l0, lS]
        refine readHg (i := 24) (some 119) rfl (.int .i64 (ynE (yon q (yat r p)))) rfl rfl (fun _ M => (by kernel_rfl)) M ?_
        simp only [aP, lI, l0, lS]
        refine readHg (i := 25) (some 120) rfl (.int .i64 (ynE (yon q (yat r p)))) rfl rfl (fun _ M => (by kernel_rfl)) M ?_
        simp only [aP, lI, l0, lS]
        refine readHg (i := 26) (some 121) rfl (.bool false) rfl rfl (fun _ M => neqI .i64 _ _ _ _ _ _ rfl rfl rfl false (bne_self_eq_false _) _) M ?_
        simp only [aP, lI, l0, lS]
        refine readHg (i := 27) (some 122) rfl (.bool false) rfl rfl (fun _ M => (by kernel_rfl)) M ?_
        simp only [aP, lI, l0, lS]
        refine readHg (i := 28) (some 123) rfl (.bool false) rfl rfl (fun _ M => (by kernel_rfl)) M ?_
        simp only [aP, lI, l0, lS]
        refine readHg (i := 29) (some 124) rfl (.pointer (some ⟨Ra, 0, none⟩)) rfl rfl (fun _ M => (by kernel_rfl)) M ?_
        simp only [aP, lI, l0, lS]
        refine readHg (i := 31) (some 126) rfl (.pointer (some ⟨Y, 0, none⟩)) rfl rfl (fun _ M => (by kernel_rfl)) M ?_
        simp only [aP, lI, l0, lS]
        refine readHg (i := 32) (some 127) rfl (.pointer (some ⟨Y, 0, none⟩)) rfl rfl (fun _ M => (by kernel_rfl)) M ?_
        simp only [aP, lI, l0, lS]
        refine readHg (i := 33) (some 128) rfl (.pointer (some ⟨Y, 0, none⟩)) rfl rfl (fun _ M => (by kernel_rfl)) M ?_
        simp only [aP, lI, l0, lS]
        refine readHg (i := 34) (some 129) rfl (.int .i64 ((yon q (yat r p)).e)) rfl rfl (fun _ M => load1 3 _ ⟨Y, 0, none⟩ _ rfl rfl (fun _ => by kernel_rfl) (M.get (mT _ mS) 0 _ rfl)) M ?_
        simp only [aP, lI, l0, lS]
        have Mp := M.perm (pull0 ([(B43, row .u8 32 (ynK (yon q (yat r p)))), (Y, ykc (yon q (yat r p))), (B40, row .u8 32 (ynK (yon q (yat r p)))), (B37, row .u8 32 (ykK (yon q (yat r p)) ((yon q (yat r p)).e - 1))), (B34, row .u8 32 (ykK (yon q (yat r p)) ((yon q (yat r p)).e - 1))), (B31, row .u8 32 (ykK (yon q (yat r p)) ((yon q (yat r p)).e))), (B28, row .u8 32 (ykK (yon q (yat r p)) ((yon q (yat r p)).e))), (B1, row .u8 32 r)] : List (Nat × List Value)) bs ([] : List (Nat × List Value)))
        have key := hK.epo w0 _ _ (yon q (yat r p)) bs _ hkw hIa Mp
        clear Mp
        refine callH (i := 30) (some 125) rfl (by kernel_rfl) rfl rfl (fun _ => by kernel_rfl) key ?_
        clear key
        rintro e w46 ⟨rfl, l⟩
        replace M := M.call l
        clear l
        refine ⟨_, rfl, M, ?_⟩
        simp only [aP, lI, l0, lS]
        refine readHg (i := 35) (some 130) rfl (.bool false) rfl rfl (fun _ M => neqI .i64 _ _ _ _ _ _ rfl rfl rfl false (bne_self_eq_false _) _) M ?_
        simp only [aP, lI, l0, lS]
        refine readHg (i := 36) (some 131) rfl (.bool false) rfl rfl (fun _ M => (by kernel_rfl)) M ?_
        simp only [aP, lI, l0, lS]
        refine wpAnyH_done (by kernel_rfl) ?_ _
        first | show Exit.then _ _ _ _ _ | show Exit.inBlock _ _ _ _ _
        go_upto_region 19 with fail
        refine wp_region_list ?_
        refine readL (.pointer (some ⟨Ra, 0, none⟩)) rfl (by kernel_rfl) ?_
        simp only [aP, lI, l0, lS]
        have Mp := M.perm (pull0 ([(B43, row .u8 32 (ynK (yon q (yat r p)))), (Y, ykc (yon q (yat r p))), (B40, row .u8 32 (ynK (yon q (yat r p)))), (B37, row .u8 32 (ykK (yon q (yat r p)) ((yon q (yat r p)).e - 1))), (B34, row .u8 32 (ykK (yon q (yat r p)) ((yon q (yat r p)).e - 1))), (B31, row .u8 32 (ykK (yon q (yat r p)) ((yon q (yat r p)).e))), (B28, row .u8 32 (ykK (yon q (yat r p)) ((yon q (yat r p)).e))), (B1, row .u8 32 r)] : List (Nat × List Value)) bs ([] : List (Nat × List Value)))
        have key := hK.adv w0 _ _ (yon q (yat r p)) bs _ hg hkw hIa Mp
        clear Mp
        refine callL rfl (fun _ => by kernel_rfl) key ?_
        clear key
        rintro e w47 ⟨rfl, ba1, hI_, -, M', -⟩
        clear M hIa
        have hIa := hI_
        clear hI_
        have M : Mm w0 ((B43, row .u8 32 (ynK (yon q (yat r p)))) :: (Y, ykc (yon q (yat r p))) :: (B40, row .u8 32 (ynK (yon q (yat r p)))) :: (B37, row .u8 32 (ykK (yon q (yat r p)) ((yon q (yat r p)).e - 1))) :: (B34, row .u8 32 (ykK (yon q (yat r p)) ((yon q (yat r p)).e - 1))) :: (B31, row .u8 32 (ykK (yon q (yat r p)) ((yon q (yat r p)).e))) :: (B28, row .u8 32 (ykK (yon q (yat r p)) ((yon q (yat r p)).e))) :: (B1, row .u8 32 r) :: (ba1 ++ ([] : List (Nat × List Value)))) w47 := M'.perm (pull0 ([(B43, row .u8 32 (ynK (yon q (yat r p)))), (Y, ykc (yon q (yat r p))), (B40, row .u8 32 (ynK (yon q (yat r p)))), (B37, row .u8 32 (ykK (yon q (yat r p)) ((yon q (yat r p)).e - 1))), (B34, row .u8 32 (ykK (yon q (yat r p)) ((yon q (yat r p)).e - 1))), (B31, row .u8 32 (ykK (yon q (yat r p)) ((yon q (yat r p)).e))), (B28, row .u8 32 (ykK (yon q (yat r p)) ((yon q (yat r p)).e))), (B1, row .u8 32 r)] : List (Nat × List Value)) ba1 ([] : List (Nat × List Value))).symm
        clear M'
        refine ⟨_, rfl, ?_⟩
        simp only [aP, lI, l0, lS]
        refine readL (.pointer (some ⟨Y, 0, none⟩)) rfl (by kernel_rfl) ?_
        simp only [aP, lI, l0, lS]
        replace M := M.swap
        have key := ryadv_any w0 _ Y _ (yon q (yat r p)) hkw M
        refine callL rfl (fun _ => by kernel_rfl) key ?_
        clear key
        rintro e w48 ⟨rfl, M', -⟩
        clear M
        have M := M'
        clear M'
        replace M : Mm w0 ((Y, ykc (yon (q + 1) (yat r p))) :: (B43, row .u8 32 (ynK (yon q (yat r p)))) :: (B40, row .u8 32 (ynK (yon q (yat r p)))) :: (B37, row .u8 32 (ykK (yon q (yat r p)) ((yon q (yat r p)).e - 1))) :: (B34, row .u8 32 (ykK (yon q (yat r p)) ((yon q (yat r p)).e - 1))) :: (B31, row .u8 32 (ykK (yon q (yat r p)) ((yon q (yat r p)).e))) :: (B28, row .u8 32 (ykK (yon q (yat r p)) ((yon q (yat r p)).e))) :: (B1, row .u8 32 r) :: (ba1 ++ ([] : List (Nat × List Value)))) w48 := M
        refine ⟨_, rfl, ?_⟩
        simp only [aP, lI, l0, lS]
        refine readL (.bool false) rfl (neqI .i64 _ _ _ _ _ _ rfl rfl rfl false (bne_self_eq_false _) _) ?_
        simp only [aP, lI, l0, lS]
        first | show Exit.then _ _ _ _ _ | show Exit.inBlock _ _ _ _ _
        replace M : Mm w0 ((B1, row .u8 32 r) :: (Y, ykc (yon (q + 1) (yat r p))) :: (B43, row .u8 32 (ynK (yon q (yat r p)))) :: (B40, row .u8 32 (ynK (yon q (yat r p)))) :: (B37, row .u8 32 (ykK (yon q (yat r p)) ((yon q (yat r p)).e - 1))) :: (B34, row .u8 32 (ykK (yon q (yat r p)) ((yon q (yat r p)).e - 1))) :: (B31, row .u8 32 (ykK (yon q (yat r p)) ((yon q (yat r p)).e))) :: (B28, row .u8 32 (ykK (yon q (yat r p)) ((yon q (yat r p)).e))) :: (ba1 ++ ([] : List (Nat × List Value)))) w48 := M.perm (List.perm_middle (l₁ := [_, _, _, _, _, _, _]) (a := _) (l₂ := _))
        replace M := M.swap
        replace M : Mm w0 ((Y, ykc (yon (q + 1) (yat r p))) :: (B1, row .u8 32 r) :: (ba1 ++ ([] : List (Nat × List Value)))) w48 := M.sub _ (List.cons_sublist_cons.2 (List.cons_sublist_cons.2 (List.Sublist.cons _ (List.Sublist.cons _ (List.Sublist.cons _ (List.Sublist.cons _ (List.Sublist.cons _ (List.Sublist.cons _ (List.Sublist.refl _)))))))))
        have HS := show Hid _ from (show I (.pointer (some ⟨Ra, 0, none⟩)) (yon (q + 1) (yat r p)) ba1 ∧ Mm w0 ((Y, ykc (yon (q + 1) (yat r p))) :: (B1, row .u8 32 r) :: (ba1 ++ ([] : List (Nat × List Value)))) w48 from ⟨hIa, M⟩)
        clear M hIa hkw hlo hhi hN
        go_wp2
        go_roundw
        case rel => exact ⟨q + 1, _, by omega, by go_num, HS.out⟩
        case measure => simp [intOf]; omega
      · go_upto_region 9 with fail
        refine wp_region_list ?_
        refine readL (.int .i64 (q : Int)) rfl (by kernel_rfl) ?_
        simp only [aP, lI, l0, lS]
        refine readL (.int .i64 z) rfl (by kernel_rfl) ?_
        simp only [aP, lI, l0, lS]
        refine readL (.int .i64 (N : Int)) rfl (remI .i64 _ _ _ _ _ _ _ rfl rfl rfl (by decide) hN _) ?_
        simp only [aP, lI, l0, lS]
        refine readL (.bool false) rfl (leqI .i64 _ _ _ _ _ _ rfl rfl rfl false (decide_eq_false (by omega)) _) ?_
        simp only [aP, lI, l0, lS]
        first | show Exit.then _ _ _ _ _ | show Exit.inBlock _ _ _ _ _
        go_upto_region 21 with fail
        refine wp_region_list ?_
        refine readL (.bool true) rfl (by kernel_rfl) ?_
        simp only [aP, lI, l0, lS]
        first | show Exit.then _ _ _ _ _ | show Exit.inBlock _ _ _ _ _
        have hbel := M.below
        clear M
        go_wp2
        go_ret
        exact ⟨rfl, hbel⟩
def BHashOK : Prop := ∀ (sp : Option Addr) (len cap : Nat), len ≤ 140737488355072 → len ≤ cap → (sp = none → cap = 0) → ∀ z : Nat → Int, In 256 len z → ∀ w : World, BGlob w → Src w sp len z →
    Calls Tryd.prog 32 #[.slice sp len cap] w fun e w' => e = .returned (.agg (row .u8 32 (bhash len z)).toArray) ∧ Below w.heap.size w w'
def BMacOK : Prop := ∀ (kp : Option Addr) (kl kc : Nat), kl ≤ 140737488355072 → kl ≤ kc → (kp = none → kc = 0) → ∀ key : Nat → Int, In 256 kl key → ∀ (sp : Option Addr) (len cap : Nat), len ≤ 140737488354816 → len ≤ cap → (sp = none → cap = 0) → ∀ z : Nat → Int, In 256 len z → ∀ w : World, BGlob w → Src w kp kl key → Src w sp len z →
    Calls Tryd.prog 29 #[.slice kp kl kc, .slice sp len cap] w fun e w' => e = .returned (.agg (row .u8 32 (bmac kl key len z)).toArray) ∧ Below w.heap.size w w'
theorem of32_raw (B o l c : Nat) (hl : 4 ≤ l) (x0 x1 x2 x3 : Int) (h0 : 0 ≤ x0 ∧ x0 < 256) (h1 : 0 ≤ x1 ∧ x1 < 256) (h2 : 0 ≤ x2 ∧ x2 < 256) (h3 : 0 ≤ x3 ∧ x3 < 256) (w : World) (c0 : w.cell? ⟨B, o, none⟩ = some (.int .u8 x0)) (c1 : w.cell? ⟨B, o + 1, none⟩ = some (.int .u8 x1)) (c2 : w.cell? ⟨B, o + 2, none⟩ = some (.int .u8 x2)) (c3 : w.cell? ⟨B, o + 3, none⟩ = some (.int .u8 x3)) :
    Calls Tryd.prog 49 #[.slice (some ⟨B, o, none⟩) l c] w fun e w' => ∃ q, e = .returned (.int .u32 (x0 + x1 * 256 + x2 * 65536 + x3 * 16777216)) ∧ w' = w.drewN q := by
  have hg := glued32 x0 x1 x2 x3 h0 h1 h2 h3
  have HG := show Hid _ from hg
  have l0 : (0 : Int) < (l : Int) := by omega
  have l1 : (1 : Int) < (l : Int) := by omega
  have l2 : (2 : Int) < (l : Int) := by omega
  have l3 : (3 : Int) < (l : Int) := by omega
  clear hg h0 h1 h2 h3 hl
  go_enter Tryd.func49, Tryd.ntmps49
  go_wp2
  go_quiet (fail)
  go_wp2
  go_ret
  exact ⟨nq, by rw [HG.out]; rfl, rfl⟩
theorem of32_any (B o n l c : Nat) (a : Nat → Int) (hl : 4 ≤ l) (ho : o + 4 ≤ n) (ha : In 256 n a) (w : World) (h : Has w B .u8 n a) :
    Calls Tryd.prog 49 #[.slice (some ⟨B, o, none⟩) l c] w fun e w' => ∃ q, e = .returned (.int .u32 (w32 a o)) ∧ w' = w.drewN q :=
  of32_raw B o l c hl _ _ _ _ (ha o (by omega)) (ha (o + 1) (by omega)) (ha (o + 2) (by omega)) (ha (o + 3) (by omega)) w (h.cell o (by omega)) (h.cell (o + 1) (by omega)) (h.cell (o + 2) (by omega)) (h.cell (o + 3) (by omega))
theorem put32_raw (B o l c : Nat) (hl : 4 ≤ l) (x : Int) (y0 y1 y2 y3 : Int) (w : World) (c0 : w.cell? ⟨B, o, none⟩ = some (.int .u8 y0)) (f0 : w.frozen? ⟨B, o, none⟩ = false) (c1 : w.cell? ⟨B, o + 1, none⟩ = some (.int .u8 y1)) (f1 : w.frozen? ⟨B, o + 1, none⟩ = false) (c2 : w.cell? ⟨B, o + 2, none⟩ = some (.int .u8 y2)) (f2 : w.frozen? ⟨B, o + 2, none⟩ = false) (c3 : w.cell? ⟨B, o + 3, none⟩ = some (.int .u8 y3)) (f3 : w.frozen? ⟨B, o + 3, none⟩ = false) :
    Calls Tryd.prog 44 #[.slice (some ⟨B, o, none⟩) l c, .int .u32 x] w fun e w' => e = .returned (.tuple #[]) ∧ w' = ((((w.setCell ⟨B, o, none⟩ (.int .u8 (x % 256))).setCell ⟨B, o + 1, none⟩ (.int .u8 (x / 256 % 256))).setCell ⟨B, o + 2, none⟩ (.int .u8 (x / 65536 % 256))).setCell ⟨B, o + 3, none⟩ (.int .u8 (x / 16777216 % 256))) := by
  have l0 : (0 : Int) < (l : Int) := by omega
  have l1 : (1 : Int) < (l : Int) := by omega
  have l2 : (2 : Int) < (l : Int) := by omega
  have l3 : (3 : Int) < (l : Int) := by omega
  clear hl
  go_enter Tryd.func44, Tryd.ntmps44
  go_wp2
  go_end0
  exact ⟨rfl, rfl⟩
theorem put32_any (B o n l c : Nat) (hl : 4 ≤ l) (g : Nat → Int) (x : Int) (ho : o + 4 ≤ n) (w : World) (h : Has w B .u8 n g) :
    Calls Tryd.prog 44 #[.slice (some ⟨B, o, none⟩) l c, .int .u32 x] w fun e w' => e = .returned (.tuple #[]) ∧ w' = w.setCells B o (row .u8 4 (b32 x)) :=
  put32_raw B o l c hl x _ _ _ _ w (h.cell o (by omega)) (h.free o (by omega)) (h.cell (o + 1) (by omega)) (h.free (o + 1) (by omega)) (h.cell (o + 2) (by omega)) (h.free (o + 2) (by omega)) (h.cell (o + 3) (by omega)) (h.free (o + 3) (by omega))
theorem results_four {P : Program} {fn : Func} {tmps : Array Value} {w : World} {a b c d : Tmp} {u v x y : Value} (hr : fn.results = #[.tmp a, .tmp b, .tmp c, .tmp d])
    (ha : tmps.getD a undef = u) (hb : tmps.getD b undef = v) (hc : tmps.getD c undef = x) (hd : tmps.getD d undef = y) :
    (results fn tmps).run P w = .ok (.tuple #[u, v, x, y]) w := by
  rw [Array.getD_eq_getD_getElem?] at ha hb hc hd
  simp [results, hr, ha, hb, hc, hd]
theorem rotR_any (n : Int) (p : Nat) (hn : (n = -16 ∧ p = 16) ∨ (n = -12 ∧ p = 20) ∨ (n = -8 ∧ p = 24) ∨ (n = -7 ∧ p = 25)) (x : Int) (w : World) :
    Calls Tryd.prog 52 #[.int .u32 x, .int .i64 n] w fun e w' => e = .returned (.int .u32 (hrl p x)) ∧ w' = w := by
  rcases hn with ⟨rfl, rfl⟩ | ⟨rfl, rfl⟩ | ⟨rfl, rfl⟩ | ⟨rfl, rfl⟩
  · have hm : bits BinOp.and IntKind.u64 (IntKind.u64.wrap (-16)) 31 = 16 := by decide +kernel
    go_enter Tryd.func52, Tryd.ntmps52
    go_wp2
    go_ret
    exact ⟨rfl, rfl⟩
  · have hm : bits BinOp.and IntKind.u64 (IntKind.u64.wrap (-12)) 31 = 20 := by decide +kernel
    go_enter Tryd.func52, Tryd.ntmps52
    go_wp2
    go_ret
    exact ⟨rfl, rfl⟩
  · have hm : bits BinOp.and IntKind.u64 (IntKind.u64.wrap (-8)) 31 = 24 := by decide +kernel
    go_enter Tryd.func52, Tryd.ntmps52
    go_wp2
    go_ret
    exact ⟨rfl, rfl⟩
  · have hm : bits BinOp.and IntKind.u64 (IntKind.u64.wrap (-7)) 31 = 25 := by decide +kernel
    go_enter Tryd.func52, Tryd.ntmps52
    go_wp2
    go_ret
    exact ⟨rfl, rfl⟩
end Go.Proofs.YtckohmdmjhaknaaDoor
