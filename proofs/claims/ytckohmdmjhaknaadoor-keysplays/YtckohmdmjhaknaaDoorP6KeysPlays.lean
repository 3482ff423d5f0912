/- Texts of Eb Gm Bg Ec Eg Eh LawKeysStay Ei, joined. -/
import Derived.Test.YtckohmdmjhaknaaDoorP5KeysPlays
import Derived.Defers
import Derived.Recover
import Derived.Test.YtckohmdmjhaknaaDoorP1KeysPlays
import Derived.Test.YtckohmdmjhaknaaDoorP2KeysPlays
import Derived.Test.YtckohmdmjhaknaaDoorProg
set_option maxRecDepth 20000
set_option maxHeartbeats 64000000
namespace Go.Proofs.YtckohmdmjhaknaaDoor
open Go.RowKit
def ykc (k : Kys) : List Value := [[Value.int .i64 k.e], row .u8 32 k.now, row .u8 32 k.last, [Value.bool k.has]].flatten
theorem ylt_in (k : Nat → Int) : In 256 32 (ylt k) := kT_in k 12 _ 32 1
theorem yof_in (k : Nat → Int) : In 256 32 (yof k) := kT_in k 10 _ 32 1
theorem rynew_any (w0 w : World) (l : List (Nat × List Value)) (r : Nat → Int) (M : Mm w0 l w) :
    Calls Tryd.prog 8 #[.agg (row .u8 32 r).toArray] w fun e w' => ∃ R, e = .returned (.pointer (some ⟨R, 0, none⟩)) ∧ w.heap.size ≤ R ∧ Mm w0 ((R, ykc (ynew r)) :: l) w' ∧ Below w.heap.size w w' := by
  have hb0 := M.below
  have hwz := Nat.le_refl w.heap.size
  have OF := Off.refl [] w
  go_enter Tryd.func8, Tryd.ntmps8
  go_upto_region 0 with fail
  refine wp_region_list ?_
  have hlb := (Below.refl w.heap.size w).alloc (Nat.le_refl _) (.cells (row .u8 32 r).toArray 23)
  refine actL (w' := w.alloc (.cells (row .u8 32 r).toArray 23)) (.pointer (some ⟨w.heap.size, 0, none⟩)) rfl (by kernel_rfl) ?_
  simp only [aP, lI, l0, lS]
  have hB_ := hwz
  replace hwz := Nat.le_trans hwz hlb.size
  replace OF := OF.below hlb
  replace M := M.box (row .u8 32 r).toArray 23 w.heap.size rfl
  clear hlb
  generalize w.alloc (.cells (row .u8 32 r).toArray 23) = w1 at M hwz OF ⊢
  generalize eB_ : w.heap.size = B1 at M ⊢
  have hB_B1 : w.heap.size ≤ B1 := by rw [← eB_]; exact hB_
  clear hB_ eB_
  replace M : Mm w0 ((B1, row .u8 32 r) :: l) w1 := M
  refine readL (.pointer none) rfl (by kernel_rfl) ?_
  simp only [aP, lI, l0, lS]
  first | show Exit.then _ _ _ _ _ | show Exit.inBlock _ _ _ _ _
  go_upto_region 1 with fail
  refine wp_region_list ?_
  refine readL (.agg (row .u8 32 r).toArray) rfl (loadN 23 _ ⟨B1, 0, none⟩ (row .u8 32 r) rfl rfl (fun _ => by kernel_rfl) (fun _ => by rw [row32]; kernel_rfl) (M.part mS 0 _ (by rw [List.drop_zero, List.take_length]))) ?_
  simp only [aP, lI, l0, lS]
  refine readL (.agg ([[Value.int .i64 0], row .u8 32 r, row .u8 32 (fun _ => 0), [Value.bool false]].flatten).toArray) rfl (by kernel_rfl) ?_
  simp only [aP, lI, l0, lS]
  have hlb := (Below.refl w1.heap.size w1).alloc (Nat.le_refl _) (.cells ([[Value.int .i64 0], row .u8 32 r, row .u8 32 (fun _ => 0), [Value.bool false]].flatten).toArray 35)
  refine actL (w' := w1.alloc (.cells ([[Value.int .i64 0], row .u8 32 r, row .u8 32 (fun _ => 0), [Value.bool false]].flatten).toArray 35)) (.pointer (some ⟨w1.heap.size, 0, none⟩)) rfl (by kernel_rfl) ?_
  simp only [aP, lI, l0, lS]
  have hB_ := hwz
  replace hwz := Nat.le_trans hwz hlb.size
  replace OF := OF.below hlb
  replace M := M.box ([[Value.int .i64 0], row .u8 32 r, row .u8 32 (fun _ => 0), [Value.bool false]].flatten).toArray 35 w1.heap.size rfl
  clear hlb
  generalize w1.alloc (.cells ([[Value.int .i64 0], row .u8 32 r, row .u8 32 (fun _ => 0), [Value.bool false]].flatten).toArray 35) = w2 at M hwz OF ⊢
  generalize eB_ : w1.heap.size = B2 at M ⊢
  have hB_B2 : w.heap.size ≤ B2 := by rw [← eB_]; exact hB_
  clear hB_ eB_
  replace M : Mm w0 ((B2, [[Value.int .i64 0], row .u8 32 r, row .u8 32 (fun _ => 0), [Value.bool false]].flatten) :: (B1, row .u8 32 r) :: l) w2 := M
  refine readL (.pointer (some ⟨B2, 0, none⟩)) rfl (by kernel_rfl) ?_
  simp only [aP, lI, l0, lS]
  first | show Exit.then _ _ _ _ _ | show Exit.inBlock _ _ _ _ _
  replace M : Mm w0 ((B2, [[Value.int .i64 0], row .u8 32 r, row .u8 32 (fun _ => 0), [Value.bool false]].flatten) :: l) w2 := M.sub _ (List.cons_sublist_cons.2 (List.Sublist.cons _ (List.Sublist.refl _)))
  have hbel : Below w.heap.size w w2 := ⟨M.below.os.trans hb0.os.symm, M.below.tape.trans hb0.tape.symm, M.below.output.trans hb0.output.symm, OF.size, fun b hb => OF.blk b hb (fun h => by cases h)⟩
  replace M : Mm w0 ((B2, ykc (ynew r)) :: l) w2 := M
  have HS := show Hid _ from (And.intro hB_B2 (And.intro M hbel))
  clear M OF hbel hB_B2
  go_wp2
  go_ret
  exact ⟨B2, rfl, HS.out⟩
theorem rykey_any (w0 w : World) (R : Nat) (l : List (Nat × List Value)) (k : Kys) (hw : KysW k) (n : Int) (M : Mm w0 ((R, ykc k) :: l) w) :
    Calls Tryd.prog 14 #[.pointer (some ⟨R, 0, none⟩), .int .i64 n] w fun e w' => e = .returned (.tuple #[.agg (row .u8 32 (ykK k n)).toArray, .int .i64 (ykE k n)]) ∧ Below w.heap.size w w' := by
  replace M : Mm w0 ((R, [[Value.int .i64 k.e], row .u8 32 k.now, row .u8 32 k.last, [Value.bool k.has]].flatten) :: l) w := M
  have hb0 := M.below
  have hwz := Nat.le_refl w.heap.size
  have OF := Off.refl [] w
  have hlo := hw.lo
  have hhi := hw.hi
  go_enter Tryd.func14, Tryd.ntmps14
  go_upto_region 0 with fail
  refine wp_region_list ?_
  have hlb := (Below.refl w.heap.size w).alloc (Nat.le_refl _) (.cells zu8_32 23)
  refine actL (w' := w.alloc (.cells zu8_32 23)) (.pointer (some ⟨w.heap.size, 0, none⟩)) rfl (by kernel_rfl) ?_
  simp only [aP, lI, l0, lS]
  have hB_ := hwz
  replace hwz := Nat.le_trans hwz hlb.size
  replace OF := OF.below hlb
  replace M := M.box zu8_32 23 w.heap.size rfl
  clear hlb
  generalize w.alloc (.cells zu8_32 23) = w1 at M hwz OF ⊢
  generalize eB_ : w.heap.size = B1 at M ⊢
  have hB_B1 : w.heap.size ≤ B1 := by rw [← eB_]; exact hB_
  clear hB_ eB_
  replace M : Mm w0 ((B1, row .u8 32 (fun _ => 0)) :: (R, [[Value.int .i64 k.e], row .u8 32 k.now, row .u8 32 k.last, [Value.bool k.has]].flatten) :: l) w1 := M
  refine readL (.int .i64 0) rfl (by kernel_rfl) ?_
  simp only [aP, lI, l0, lS]
  first | show Exit.then _ _ _ _ _ | show Exit.inBlock _ _ _ _ _
  by_cases h1 : n = k.e
  · go_upto_region 1 with fail
    refine wp_region_list ?_
    refine readL (.int .i64 n) rfl (by kernel_rfl) ?_
    simp only [aP, lI, l0, lS]
    refine readL (.pointer (some ⟨R, 0, none⟩)) rfl (by kernel_rfl) ?_
    simp only [aP, lI, l0, lS]
    refine readL (.pointer (some ⟨R, 0, none⟩)) rfl (by kernel_rfl) ?_
    simp only [aP, lI, l0, lS]
    refine readL (.pointer (some ⟨R, 0, none⟩)) rfl (by kernel_rfl) ?_
    simp only [aP, lI, l0, lS]
    refine readL (.int .i64 k.e) rfl (load1 3 _ ⟨R, 0, none⟩ _ rfl rfl (fun _ => by kernel_rfl) (M.get (mT _ mS) 0 _ (flat_get _ [1, 32, 32, 1] (by simp [row_length]) 0 0 _ rfl rfl))) ?_
    simp only [aP, lI, l0, lS]
    refine readL (.bool true) rfl (eqlI .i64 _ _ _ _ _ _ rfl rfl rfl true (by rw [h1]; exact beq_self_eq_true _) _) ?_
    simp only [aP, lI, l0, lS]
    first | show Exit.then _ _ _ _ _ | show Exit.inBlock _ _ _ _ _
    go_upto_region 2 with fail
    refine wp_region_list ?_
    refine readL (.pointer (some ⟨R, 0, none⟩)) rfl (by kernel_rfl) ?_
    simp only [aP, lI, l0, lS]
    refine readL (.pointer (some ⟨R, 0, none⟩)) rfl (by kernel_rfl) ?_
    simp only [aP, lI, l0, lS]
    refine readL (.pointer (some ⟨R, 1, none⟩)) rfl (by kernel_rfl) ?_
    simp only [aP, lI, l0, lS]
    refine readL (.agg (row .u8 32 k.now).toArray) rfl (loadN 23 _ ⟨R, 1, none⟩ (row .u8 32 k.now) rfl rfl (fun _ => by kernel_rfl) (fun _ => by rw [row32]; kernel_rfl) (M.part (mT _ mS) 1 _ (flat_part _ [1, 32, 32, 1] (by simp [row_length]) 1 1 _ rfl rfl))) ?_
    simp only [aP, lI, l0, lS]
    refine callL rfl (fun _ => by kernel_rfl) (krefOf_any k.now hw.now _) ?_
    rintro e w2 ⟨rfl, l⟩
    replace M := M.call l
    replace hwz := Nat.le_trans hwz l.size
    replace OF := OF.below l
    clear l
    refine ⟨_, rfl, ?_⟩
    simp only [aP, lI, l0, lS]
    refine skipOpL rfl (storeP (row .u8 32 (yof k.now)) B1 0 23 _ _ rfl rfl rfl (M.thereP mS 0 32 (Nat.le_of_ble_eq_true rfl)) (by kernel_rfl) (row_one .u8 32 (yof k.now))) ?_
    simp only [Act.put]
    replace M := M.setAll (row .u8 32 (yof k.now)) (by first | (rw [row32, row32]; done) | (rw [row32]; rfl) | (rw [row32]; done))
    replace hwz := Nat.le_trans hwz (Off.size ((Off.refl [B1] _).setAll (b := B1) mS 0 (row .u8 32 (yof k.now))))
    replace OF := OF.and1 ((Off.refl [B1] _).setAll (b := B1) mS 0 (row .u8 32 (yof k.now))) (.inr (by omega))
    generalize w2.setCells B1 0 (row .u8 32 (yof k.now)) = w3 at M hwz OF ⊢
    refine readL (.int .i64 0) rfl (by kernel_rfl) ?_
    simp only [aP, lI, l0, lS]
    first | show Exit.then _ _ _ _ _ | show Exit.inBlock _ _ _ _ _
    have hK := show Hid _ from ykK_now h1
    have hE := show Hid _ from ykE_now h1
    have c1_ := M.part mS 0 (row .u8 32 (yof k.now)) (by rw [List.drop_zero, List.take_length])
    have hbel : Below w.heap.size w w3 := ⟨M.below.os.trans hb0.os.symm, M.below.tape.trans hb0.tape.symm, M.below.output.trans hb0.output.symm, OF.size, fun b hb => OF.blk b hb (fun h => by cases h)⟩
    clear M OF
    go_wp2
    refine bodyPost_ret (v := .tuple #[.agg (row .u8 32 (yof k.now)).toArray, .int .i64 0]) (retCellTmp 4 5 23 ⟨B1, 0, none⟩ (row .u8 32 (yof k.now)) _ rfl rfl rfl (fun _ => by kernel_rfl) (fun _ => by rw [row32]; kernel_rfl) c1_) rfl ?_
    exact ⟨by rw [hK.out, hE.out], hbel⟩
  · go_upto_region 1 with fail
    refine wp_region_list ?_
    refine readL (.int .i64 n) rfl (by kernel_rfl) ?_
    simp only [aP, lI, l0, lS]
    refine readL (.pointer (some ⟨R, 0, none⟩)) rfl (by kernel_rfl) ?_
    simp only [aP, lI, l0, lS]
    refine readL (.pointer (some ⟨R, 0, none⟩)) rfl (by kernel_rfl) ?_
    simp only [aP, lI, l0, lS]
    refine readL (.pointer (some ⟨R, 0, none⟩)) rfl (by kernel_rfl) ?_
    simp only [aP, lI, l0, lS]
    refine readL (.int .i64 k.e) rfl (load1 3 _ ⟨R, 0, none⟩ _ rfl rfl (fun _ => by kernel_rfl) (M.get (mT _ mS) 0 _ (flat_get _ [1, 32, 32, 1] (by simp [row_length]) 0 0 _ rfl rfl))) ?_
    simp only [aP, lI, l0, lS]
    refine readL (.bool false) rfl (eqlI .i64 _ _ _ _ _ _ rfl rfl rfl false (by rw [beq_eq_false_iff_ne]; exact h1) _) ?_
    simp only [aP, lI, l0, lS]
    first | show Exit.then _ _ _ _ _ | show Exit.inBlock _ _ _ _ _
    by_cases h2 : n = k.e - 1
    · go_upto_region 3 with fail
      refine wp_region_list ?_
      refine readL (.int .i64 n) rfl (by kernel_rfl) ?_
      simp only [aP, lI, l0, lS]
      refine readL (.pointer (some ⟨R, 0, none⟩)) rfl (by kernel_rfl) ?_
      simp only [aP, lI, l0, lS]
      refine readL (.pointer (some ⟨R, 0, none⟩)) rfl (by kernel_rfl) ?_
      simp only [aP, lI, l0, lS]
      refine readL (.pointer (some ⟨R, 0, none⟩)) rfl (by kernel_rfl) ?_
      simp only [aP, lI, l0, lS]
      refine readL (.int .i64 k.e) rfl (load1 3 _ ⟨R, 0, none⟩ _ rfl rfl (fun _ => by kernel_rfl) (M.get (mT _ mS) 0 _ (flat_get _ [1, 32, 32, 1] (by simp [row_length]) 0 0 _ rfl rfl))) ?_
      simp only [aP, lI, l0, lS]
      refine readL (.int .i64 (k.e - 1)) rfl (subI .i64 _ _ _ _ _ _ _ rfl rfl rfl (by rw [IntKind.wrap_i64]; omega) _) ?_
      simp only [aP, lI, l0, lS]
      refine readL (.bool true) rfl (eqlI .i64 _ _ _ _ _ _ rfl rfl rfl true (by rw [h2]; exact beq_self_eq_true _) _) ?_
      simp only [aP, lI, l0, lS]
      refine readL (.bool true) rfl (by kernel_rfl) ?_
      simp only [aP, lI, l0, lS]
      refine readL (.pointer (some ⟨R, 0, none⟩)) rfl (by kernel_rfl) ?_
      simp only [aP, lI, l0, lS]
      refine readL (.pointer (some ⟨R, 0, none⟩)) rfl (by kernel_rfl) ?_
      simp only [aP, lI, l0, lS]
      refine readL (.pointer (some ⟨R, 65, none⟩)) rfl (by kernel_rfl) ?_
      simp only [aP, lI, l0, lS]
      refine readL (.bool k.has) rfl (load1 4 _ ⟨R, 65, none⟩ _ rfl rfl (fun _ => by kernel_rfl) (M.get (mT _ mS) 65 _ (flat_get _ [1, 32, 32, 1] (by simp [row_length]) 3 65 _ rfl rfl))) ?_
      simp only [aP, lI, l0, lS]
      refine readL (.bool k.has) rfl (by kernel_rfl) ?_
      simp only [aP, lI, l0, lS]
      first | show Exit.then _ _ _ _ _ | show Exit.inBlock _ _ _ _ _
      by_cases h3 : k.has = true
      · rw [h3]
        go_upto_region 4 with fail
        refine wp_region_list ?_
        refine readL (.pointer (some ⟨R, 0, none⟩)) rfl (by kernel_rfl) ?_
        simp only [aP, lI, l0, lS]
        refine readL (.pointer (some ⟨R, 0, none⟩)) rfl (by kernel_rfl) ?_
        simp only [aP, lI, l0, lS]
        refine readL (.pointer (some ⟨R, 33, none⟩)) rfl (by kernel_rfl) ?_
        simp only [aP, lI, l0, lS]
        refine readL (.agg (row .u8 32 k.last).toArray) rfl (loadN 23 _ ⟨R, 33, none⟩ (row .u8 32 k.last) rfl rfl (fun _ => by kernel_rfl) (fun _ => by rw [row32]; kernel_rfl) (M.part (mT _ mS) 33 _ (flat_part _ [1, 32, 32, 1] (by simp [row_length]) 2 33 _ rfl rfl))) ?_
        simp only [aP, lI, l0, lS]
        refine callL rfl (fun _ => by kernel_rfl) (krefOf_any k.last hw.last _) ?_
        rintro e w4 ⟨rfl, l⟩
        replace M := M.call l
        replace hwz := Nat.le_trans hwz l.size
        replace OF := OF.below l
        clear l
        refine ⟨_, rfl, ?_⟩
        simp only [aP, lI, l0, lS]
        refine skipOpL rfl (storeP (row .u8 32 (yof k.last)) B1 0 23 _ _ rfl rfl rfl (M.thereP mS 0 32 (Nat.le_of_ble_eq_true rfl)) (by kernel_rfl) (row_one .u8 32 (yof k.last))) ?_
        simp only [Act.put]
        replace M := M.setAll (row .u8 32 (yof k.last)) (by first | (rw [row32, row32]; done) | (rw [row32]; rfl) | (rw [row32]; done))
        replace hwz := Nat.le_trans hwz (Off.size ((Off.refl [B1] _).setAll (b := B1) mS 0 (row .u8 32 (yof k.last))))
        replace OF := OF.and1 ((Off.refl [B1] _).setAll (b := B1) mS 0 (row .u8 32 (yof k.last))) (.inr (by omega))
        generalize w4.setCells B1 0 (row .u8 32 (yof k.last)) = w5 at M hwz OF ⊢
        refine readL (.int .i64 0) rfl (by kernel_rfl) ?_
        simp only [aP, lI, l0, lS]
        first | show Exit.then _ _ _ _ _ | show Exit.inBlock _ _ _ _ _
        have hK := show Hid _ from ykK_last h2 h3
        have hE := show Hid _ from ykE_last h2 h3
        have c1_ := M.part mS 0 (row .u8 32 (yof k.last)) (by rw [List.drop_zero, List.take_length])
        have hbel : Below w.heap.size w w5 := ⟨M.below.os.trans hb0.os.symm, M.below.tape.trans hb0.tape.symm, M.below.output.trans hb0.output.symm, OF.size, fun b hb => OF.blk b hb (fun h => by cases h)⟩
        clear M OF
        go_wp2
        refine bodyPost_ret (v := .tuple #[.agg (row .u8 32 (yof k.last)).toArray, .int .i64 0]) (retCellTmp 4 5 23 ⟨B1, 0, none⟩ (row .u8 32 (yof k.last)) _ rfl rfl rfl (fun _ => by kernel_rfl) (fun _ => by rw [row32]; kernel_rfl) c1_) rfl ?_
        exact ⟨by rw [hK.out, hE.out], hbel⟩
      · rw [Bool.not_eq_true] at h3
        rw [h3]
        go_upto_region 5 with fail
        refine wp_region_list ?_
        refine readL (.agg (row .u8 32 (fun _ => 0)).toArray) rfl (by kernel_rfl) ?_
        simp only [aP, lI, l0, lS]
        refine skipOpL rfl (storeP (row .u8 32 (fun _ => 0)) B1 0 23 _ _ rfl rfl rfl (M.thereP mS 0 32 (Nat.le_of_ble_eq_true rfl)) (by kernel_rfl) (row_one .u8 32 (fun _ => 0))) ?_
        simp only [Act.put]
        replace M := M.setAll (row .u8 32 (fun _ => 0)) (by first | (rw [row32, row32]; done) | (rw [row32]; rfl) | (rw [row32]; done))
        replace hwz := Nat.le_trans hwz (Off.size ((Off.refl [B1] _).setAll (b := B1) mS 0 (row .u8 32 (fun _ => 0))))
        replace OF := OF.and1 ((Off.refl [B1] _).setAll (b := B1) mS 0 (row .u8 32 (fun _ => 0))) (.inr (by omega))
        generalize w1.setCells B1 0 (row .u8 32 (fun _ => 0)) = w6 at M hwz OF ⊢
        refine readL (.int .i64 150) rfl (by kernel_rfl) ?_
        simp only [aP, lI, l0, lS]
        first | show Exit.then _ _ _ _ _ | show Exit.inBlock _ _ _ _ _
        have hK := show Hid _ from ykK_none h1 (fun h => by rw [h3] at h; cases h.2)
        have hE := show Hid _ from ykE_none h1 (fun h => by rw [h3] at h; cases h.2)
        have c1_ := M.part mS 0 (row .u8 32 (fun _ => 0)) (by rw [List.drop_zero, List.take_length])
        have hbel : Below w.heap.size w w6 := ⟨M.below.os.trans hb0.os.symm, M.below.tape.trans hb0.tape.symm, M.below.output.trans hb0.output.symm, OF.size, fun b hb => OF.blk b hb (fun h => by cases h)⟩
        clear M OF
        go_wp2
        refine bodyPost_ret (v := .tuple #[.agg (row .u8 32 (fun _ => 0)).toArray, .int .i64 150]) (retCellTmp 4 5 23 ⟨B1, 0, none⟩ (row .u8 32 (fun _ => 0)) _ rfl rfl rfl (fun _ => by kernel_rfl) (fun _ => by rw [row32]; kernel_rfl) c1_) rfl ?_
        exact ⟨by rw [hK.out, hE.out], hbel⟩
    · go_upto_region 3 with fail
      refine wp_region_list ?_
      refine readL (.int .i64 n) rfl (by kernel_rfl) ?_
      simp only [aP, lI, l0, lS]
      refine readL (.pointer (some ⟨R, 0, none⟩)) rfl (by kernel_rfl) ?_
      simp only [aP, lI, l0, lS]
      refine readL (.pointer (some ⟨R, 0, none⟩)) rfl (by kernel_rfl) ?_
      simp only [aP, lI, l0, lS]
      refine readL (.pointer (some ⟨R, 0, none⟩)) rfl (by kernel_rfl) ?_
      simp only [aP, lI, l0, lS]
      refine readL (.int .i64 k.e) rfl (load1 3 _ ⟨R, 0, none⟩ _ rfl rfl (fun _ => by kernel_rfl) (M.get (mT _ mS) 0 _ (flat_get _ [1, 32, 32, 1] (by simp [row_length]) 0 0 _ rfl rfl))) ?_
      simp only [aP, lI, l0, lS]
      refine readL (.int .i64 (k.e - 1)) rfl (subI .i64 _ _ _ _ _ _ _ rfl rfl rfl (by rw [IntKind.wrap_i64]; omega) _) ?_
      simp only [aP, lI, l0, lS]
      refine readL (.bool false) rfl (eqlI .i64 _ _ _ _ _ _ rfl rfl rfl false (by rw [beq_eq_false_iff_ne]; exact h2) _) ?_
      simp only [aP, lI, l0, lS]
      refine readL (.bool false) rfl (by kernel_rfl) ?_
      simp only [aP, lI, l0, lS]
      with_reducible refine skipL ?_ ?_
      · rfl
      simp only [aP, lI, l0, lS]
      with_reducible refine skipL ?_ ?_
      · rfl
      simp only [aP, lI, l0, lS]
      with_reducible refine skipL ?_ ?_
      · rfl
      simp only [aP, lI, l0, lS]
      with_reducible refine skipL ?_ ?_
      · rfl
      simp only [aP, lI, l0, lS]
      refine readL (.bool false) rfl (by kernel_rfl) ?_
      simp only [aP, lI, l0, lS]
      first | show Exit.then _ _ _ _ _ | show Exit.inBlock _ _ _ _ _
      go_upto_region 5 with fail
      refine wp_region_list ?_
      refine readL (.agg (row .u8 32 (fun _ => 0)).toArray) rfl (by kernel_rfl) ?_
      simp only [aP, lI, l0, lS]
      refine skipOpL rfl (storeP (row .u8 32 (fun _ => 0)) B1 0 23 _ _ rfl rfl rfl (M.thereP mS 0 32 (Nat.le_of_ble_eq_true rfl)) (by kernel_rfl) (row_one .u8 32 (fun _ => 0))) ?_
      simp only [Act.put]
      replace M := M.setAll (row .u8 32 (fun _ => 0)) (by first | (rw [row32, row32]; done) | (rw [row32]; rfl) | (rw [row32]; done))
      replace hwz := Nat.le_trans hwz (Off.size ((Off.refl [B1] _).setAll (b := B1) mS 0 (row .u8 32 (fun _ => 0))))
      replace OF := OF.and1 ((Off.refl [B1] _).setAll (b := B1) mS 0 (row .u8 32 (fun _ => 0))) (.inr (by omega))
      generalize w1.setCells B1 0 (row .u8 32 (fun _ => 0)) = w7 at M hwz OF ⊢
      refine readL (.int .i64 150) rfl (by kernel_rfl) ?_
      simp only [aP, lI, l0, lS]
      first | show Exit.then _ _ _ _ _ | show Exit.inBlock _ _ _ _ _
      have hK := show Hid _ from ykK_none h1 (fun h => h2 h.1)
      have hE := show Hid _ from ykE_none h1 (fun h => h2 h.1)
      have c1_ := M.part mS 0 (row .u8 32 (fun _ => 0)) (by rw [List.drop_zero, List.take_length])
      have hbel : Below w.heap.size w w7 := ⟨M.below.os.trans hb0.os.symm, M.below.tape.trans hb0.tape.symm, M.below.output.trans hb0.output.symm, OF.size, fun b hb => OF.blk b hb (fun h => by cases h)⟩
      clear M OF
      go_wp2
      refine bodyPost_ret (v := .tuple #[.agg (row .u8 32 (fun _ => 0)).toArray, .int .i64 150]) (retCellTmp 4 5 23 ⟨B1, 0, none⟩ (row .u8 32 (fun _ => 0)) _ rfl rfl rfl (fun _ => by kernel_rfl) (fun _ => by rw [row32]; kernel_rfl) c1_) rfl ?_
      exact ⟨by rw [hK.out, hE.out], hbel⟩
theorem rynext_any (w0 w : World) (R : Nat) (l : List (Nat × List Value)) (k : Kys) (hw : KysW k) (M : Mm w0 ((R, ykc k) :: l) w) :
    Calls Tryd.prog 16 #[.pointer (some ⟨R, 0, none⟩)] w fun e w' => e = .returned (.tuple #[.agg (row .u8 32 (ynK k)).toArray, .int .i64 (ynE k)]) ∧ Below w.heap.size w w' := by
  replace M : Mm w0 ((R, [[Value.int .i64 k.e], row .u8 32 k.now, row .u8 32 k.last, [Value.bool k.has]].flatten) :: l) w := M
  have hb0 := M.below
  have hwz := Nat.le_refl w.heap.size
  have OF := Off.refl [] w
  have hlo := hw.lo
  have hhi := hw.hi
  go_enter Tryd.func16, Tryd.ntmps16
  go_upto_region 0 with fail
  refine wp_region_list ?_
  have hlb := (Below.refl w.heap.size w).alloc (Nat.le_refl _) (.cells zu8_32 23)
  refine actL (w' := w.alloc (.cells zu8_32 23)) (.pointer (some ⟨w.heap.size, 0, none⟩)) rfl (by kernel_rfl) ?_
  simp only [aP, lI, l0, lS]
  have hB_ := hwz
  replace hwz := Nat.le_trans hwz hlb.size
  replace OF := OF.below hlb
  replace M := M.box zu8_32 23 w.heap.size rfl
  clear hlb
  generalize w.alloc (.cells zu8_32 23) = w1 at M hwz OF ⊢
  generalize eB_ : w.heap.size = B1 at M ⊢
  have hB_B1 : w.heap.size ≤ B1 := by rw [← eB_]; exact hB_
  clear hB_ eB_
  replace M : Mm w0 ((B1, row .u8 32 (fun _ => 0)) :: (R, [[Value.int .i64 k.e], row .u8 32 k.now, row .u8 32 k.last, [Value.bool k.has]].flatten) :: l) w1 := M
  refine readL (.int .i64 0) rfl (by kernel_rfl) ?_
  simp only [aP, lI, l0, lS]
  first | show Exit.then _ _ _ _ _ | show Exit.inBlock _ _ _ _ _
  by_cases h1 : 65535 ≤ k.e
  · go_upto_region 1 with fail
    refine wp_region_list ?_
    refine readL (.pointer (some ⟨R, 0, none⟩)) rfl (by kernel_rfl) ?_
    simp only [aP, lI, l0, lS]
    refine readL (.pointer (some ⟨R, 0, none⟩)) rfl (by kernel_rfl) ?_
    simp only [aP, lI, l0, lS]
    refine readL (.pointer (some ⟨R, 0, none⟩)) rfl (by kernel_rfl) ?_
    simp only [aP, lI, l0, lS]
    refine readL (.int .i64 k.e) rfl (load1 3 _ ⟨R, 0, none⟩ _ rfl rfl (fun _ => by kernel_rfl) (M.get (mT _ mS) 0 _ (flat_get _ [1, 32, 32, 1] (by simp [row_length]) 0 0 _ rfl rfl))) ?_
    simp only [aP, lI, l0, lS]
    refine readL (.bool true) rfl (geqI .i64 _ _ _ _ _ _ rfl rfl rfl true (decide_eq_true h1) _) ?_
    simp only [aP, lI, l0, lS]
    first | show Exit.then _ _ _ _ _ | show Exit.inBlock _ _ _ _ _
    go_upto_region 2 with fail
    refine wp_region_list ?_
    refine readL (.agg (row .u8 32 (fun _ => 0)).toArray) rfl (by kernel_rfl) ?_
    simp only [aP, lI, l0, lS]
    refine skipOpL rfl (storeP (row .u8 32 (fun _ => 0)) B1 0 23 _ _ rfl rfl rfl (M.thereP mS 0 32 (Nat.le_of_ble_eq_true rfl)) (by kernel_rfl) (row_one .u8 32 (fun _ => 0))) ?_
    simp only [Act.put]
    replace M := M.setAll (row .u8 32 (fun _ => 0)) (by first | (rw [row32, row32]; done) | (rw [row32]; rfl) | (rw [row32]; done))
    replace hwz := Nat.le_trans hwz (Off.size ((Off.refl [B1] _).setAll (b := B1) mS 0 (row .u8 32 (fun _ => 0))))
    replace OF := OF.and1 ((Off.refl [B1] _).setAll (b := B1) mS 0 (row .u8 32 (fun _ => 0))) (.inr (by omega))
    generalize w1.setCells B1 0 (row .u8 32 (fun _ => 0)) = w2 at M hwz OF ⊢
    refine readL (.int .i64 6) rfl (by kernel_rfl) ?_
    simp only [aP, lI, l0, lS]
    first | show Exit.then _ _ _ _ _ | show Exit.inBlock _ _ _ _ _
    have hK := show Hid _ from (show ynK k = fun _ => 0 from if_pos h1)
    have hE := show Hid _ from (show ynE k = 6 from if_pos h1)
    have c1_ := M.part mS 0 (row .u8 32 (fun _ => 0)) (by rw [List.drop_zero, List.take_length])
    have hbel : Below w.heap.size w w2 := ⟨M.below.os.trans hb0.os.symm, M.below.tape.trans hb0.tape.symm, M.below.output.trans hb0.output.symm, OF.size, fun b hb => OF.blk b hb (fun h => by cases h)⟩
    clear M OF
    go_wp2
    refine bodyPost_ret (v := .tuple #[.agg (row .u8 32 (fun _ => 0)).toArray, .int .i64 6]) (retCellTmp 2 3 23 ⟨B1, 0, none⟩ (row .u8 32 (fun _ => 0)) _ rfl rfl rfl (fun _ => by kernel_rfl) (fun _ => by rw [row32]; kernel_rfl) c1_) rfl ?_
    exact ⟨by rw [hK.out, hE.out], hbel⟩
  · go_upto_region 1 with fail
    refine wp_region_list ?_
    refine readL (.pointer (some ⟨R, 0, none⟩)) rfl (by kernel_rfl) ?_
    simp only [aP, lI, l0, lS]
    refine readL (.pointer (some ⟨R, 0, none⟩)) rfl (by kernel_rfl) ?_
    simp only [aP, lI, l0, lS]
    refine readL (.pointer (some ⟨R, 0, none⟩)) rfl (by kernel_rfl) ?_
    simp only [aP, lI, l0, lS]
    refine readL (.int .i64 k.e) rfl (load1 3 _ ⟨R, 0, none⟩ _ rfl rfl (fun _ => by kernel_rfl) (M.get (mT _ mS) 0 _ (flat_get _ [1, 32, 32, 1] (by simp [row_length]) 0 0 _ rfl rfl))) ?_
    simp only [aP, lI, l0, lS]
    refine readL (.bool false) rfl (geqI .i64 _ _ _ _ _ _ rfl rfl rfl false (decide_eq_false h1) _) ?_
    simp only [aP, lI, l0, lS]
    first | show Exit.then _ _ _ _ _ | show Exit.inBlock _ _ _ _ _
    go_upto_region 3 with fail
    refine wp_region_list ?_
    refine readL (.pointer (some ⟨R, 0, none⟩)) rfl (by kernel_rfl) ?_
    simp only [aP, lI, l0, lS]
    refine readL (.pointer (some ⟨R, 0, none⟩)) rfl (by kernel_rfl) ?_
    simp only [aP, lI, l0, lS]
    refine readL (.pointer (some ⟨R, 1, none⟩)) rfl (by kernel_rfl) ?_
    simp only [aP, lI, l0, lS]
    refine readL (.agg (row .u8 32 k.now).toArray) rfl (loadN 23 _ ⟨R, 1, none⟩ (row .u8 32 k.now) rfl rfl (fun _ => by kernel_rfl) (fun _ => by rw [row32]; kernel_rfl) (M.part (mT _ mS) 1 _ (flat_part _ [1, 32, 32, 1] (by simp [row_length]) 1 1 _ rfl rfl))) ?_
    simp only [aP, lI, l0, lS]
    refine callL rfl (fun _ => by kernel_rfl) (krefLater_any k.now hw.now _) ?_
    rintro e w3 ⟨rfl, l⟩
    replace M := M.call l
    replace hwz := Nat.le_trans hwz l.size
    replace OF := OF.below l
    clear l
    refine ⟨_, rfl, ?_⟩
    simp only [aP, lI, l0, lS]
    refine callL rfl (fun _ => by kernel_rfl) (krefOf_any (ylt k.now) (ylt_in _) _) ?_
    rintro e w4 ⟨rfl, l⟩
    replace M := M.call l
    replace hwz := Nat.le_trans hwz l.size
    replace OF := OF.below l
    clear l
    refine ⟨_, rfl, ?_⟩
    simp only [aP, lI, l0, lS]
    refine skipOpL rfl (storeP (row .u8 32 (yof (ylt k.now))) B1 0 23 _ _ rfl rfl rfl (M.thereP mS 0 32 (Nat.le_of_ble_eq_true rfl)) (by kernel_rfl) (row_one .u8 32 (yof (ylt k.now)))) ?_
    simp only [Act.put]
    replace M := M.setAll (row .u8 32 (yof (ylt k.now))) (by first | (rw [row32, row32]; done) | (rw [row32]; rfl) | (rw [row32]; done))
    replace hwz := Nat.le_trans hwz (Off.size ((Off.refl [B1] _).setAll (b := B1) mS 0 (row .u8 32 (yof (ylt k.now)))))
    replace OF := OF.and1 ((Off.refl [B1] _).setAll (b := B1) mS 0 (row .u8 32 (yof (ylt k.now)))) (.inr (by omega))
    generalize w4.setCells B1 0 (row .u8 32 (yof (ylt k.now))) = w5 at M hwz OF ⊢
    refine readL (.int .i64 0) rfl (by kernel_rfl) ?_
    simp only [aP, lI, l0, lS]
    first | show Exit.then _ _ _ _ _ | show Exit.inBlock _ _ _ _ _
    have hK := show Hid _ from (show ynK k = yof (ylt k.now) from if_neg h1)
    have hE := show Hid _ from (show ynE k = 0 from if_neg h1)
    have c1_ := M.part mS 0 (row .u8 32 (yof (ylt k.now))) (by rw [List.drop_zero, List.take_length])
    have hbel : Below w.heap.size w w5 := ⟨M.below.os.trans hb0.os.symm, M.below.tape.trans hb0.tape.symm, M.below.output.trans hb0.output.symm, OF.size, fun b hb => OF.blk b hb (fun h => by cases h)⟩
    clear M OF
    go_wp2
    refine bodyPost_ret (v := .tuple #[.agg (row .u8 32 (yof (ylt k.now))).toArray, .int .i64 0]) (retCellTmp 2 3 23 ⟨B1, 0, none⟩ (row .u8 32 (yof (ylt k.now))) _ rfl rfl rfl (fun _ => by kernel_rfl) (fun _ => by rw [row32]; kernel_rfl) c1_) rfl ?_
    exact ⟨by rw [hK.out, hE.out], hbel⟩
theorem ryadv_any (w0 w : World) (R : Nat) (l : List (Nat × List Value)) (k : Kys) (hw : KysW k) (M : Mm w0 ((R, ykc k) :: l) w) :
    Calls Tryd.prog 11 #[.pointer (some ⟨R, 0, none⟩)] w fun e w' => e = .returned (.int .i64 (ynE k)) ∧ Mm w0 ((R, ykc (yad k)) :: l) w' ∧ Off [R] w w' := by
  replace M : Mm w0 ((R, [[Value.int .i64 k.e], row .u8 32 k.now, row .u8 32 k.last, [Value.bool k.has]].flatten) :: l) w := M
  have hb0 := M.below
  have hwz := Nat.le_refl w.heap.size
  have OF := Off.refl [R] w
  have hlo := hw.lo
  have hhi := hw.hi
  go_enter Tryd.func11, Tryd.ntmps11
  go_upto_region 0 with fail
  refine wp_region_list ?_
  refine readL (.int .i64 0) rfl (by kernel_rfl) ?_
  simp only [aP, lI, l0, lS]
  first | show Exit.then _ _ _ _ _ | show Exit.inBlock _ _ _ _ _
  by_cases h1 : 65535 ≤ k.e
  · go_upto_region 1 with fail
    refine wp_region_list ?_
    refine readL (.pointer (some ⟨R, 0, none⟩)) rfl (by kernel_rfl) ?_
    simp only [aP, lI, l0, lS]
    refine readL (.pointer (some ⟨R, 0, none⟩)) rfl (by kernel_rfl) ?_
    simp only [aP, lI, l0, lS]
    refine readL (.pointer (some ⟨R, 0, none⟩)) rfl (by kernel_rfl) ?_
    simp only [aP, lI, l0, lS]
    refine readL (.int .i64 k.e) rfl (load1 3 _ ⟨R, 0, none⟩ _ rfl rfl (fun _ => by kernel_rfl) (M.get mS 0 _ (flat_get _ [1, 32, 32, 1] (by simp [row_length]) 0 0 _ rfl rfl))) ?_
    simp only [aP, lI, l0, lS]
    refine readL (.bool true) rfl (geqI .i64 _ _ _ _ _ _ rfl rfl rfl true (decide_eq_true h1) _) ?_
    simp only [aP, lI, l0, lS]
    first | show Exit.then _ _ _ _ _ | show Exit.inBlock _ _ _ _ _
    go_upto_region 2 with fail
    refine wp_region_list ?_
    refine readL (.int .i64 6) rfl (by kernel_rfl) ?_
    simp only [aP, lI, l0, lS]
    first | show Exit.then _ _ _ _ _ | show Exit.inBlock _ _ _ _ _
    have hE := show Hid _ from (show ynE k = 6 from if_pos h1)
    have hA := show Hid _ from yad_end h1
    have HS := show Hid _ from (And.intro M OF)
    clear M OF
    go_wp2
    go_ret
    exact ⟨by rw [hE.out]; rfl, by rw [hA.out]; exact HS.out.1, HS.out.2⟩
  · go_upto_region 1 with fail
    refine wp_region_list ?_
    refine readL (.pointer (some ⟨R, 0, none⟩)) rfl (by kernel_rfl) ?_
    simp only [aP, lI, l0, lS]
    refine readL (.pointer (some ⟨R, 0, none⟩)) rfl (by kernel_rfl) ?_
    simp only [aP, lI, l0, lS]
    refine readL (.pointer (some ⟨R, 0, none⟩)) rfl (by kernel_rfl) ?_
    simp only [aP, lI, l0, lS]
    refine readL (.int .i64 k.e) rfl (load1 3 _ ⟨R, 0, none⟩ _ rfl rfl (fun _ => by kernel_rfl) (M.get mS 0 _ (flat_get _ [1, 32, 32, 1] (by simp [row_length]) 0 0 _ rfl rfl))) ?_
    simp only [aP, lI, l0, lS]
    refine readL (.bool false) rfl (geqI .i64 _ _ _ _ _ _ rfl rfl rfl false (decide_eq_false h1) _) ?_
    simp only [aP, lI, l0, lS]
    first | show Exit.then _ _ _ _ _ | show Exit.inBlock _ _ _ _ _
    go_upto_region 3 with fail
    refine wp_region_list ?_
    refine readL (.pointer (some ⟨R, 0, none⟩)) rfl (by kernel_rfl) ?_
    simp only [aP, lI, l0, lS]
    refine readL (.pointer (some ⟨R, 0, none⟩)) rfl (by kernel_rfl) ?_
    simp only [aP, lI, l0, lS]
    refine readL (.pointer (some ⟨R, 0, none⟩)) rfl (by kernel_rfl) ?_
    simp only [aP, lI, l0, lS]
    refine readL (.pointer (some ⟨R, 1, none⟩)) rfl (by kernel_rfl) ?_
    simp only [aP, lI, l0, lS]
    refine readL (.agg (row .u8 32 k.now).toArray) rfl (loadN 23 _ ⟨R, 1, none⟩ (row .u8 32 k.now) rfl rfl (fun _ => by kernel_rfl) (fun _ => by rw [row32]; kernel_rfl) (M.part mS 1 _ (flat_part _ [1, 32, 32, 1] (by simp [row_length]) 1 1 _ rfl rfl))) ?_
    simp only [aP, lI, l0, lS]
    refine readL (.pointer (some ⟨R, 0, none⟩)) rfl (by kernel_rfl) ?_
    simp only [aP, lI, l0, lS]
    refine readL (.pointer (some ⟨R, 33, none⟩)) rfl (by kernel_rfl) ?_
    simp only [aP, lI, l0, lS]
    refine skipOpL rfl (storeP (row .u8 32 k.now) R 33 23 _ _ rfl rfl rfl (M.thereP mS 33 32 (by rw [flat_len _ [1, 32, 32, 1] (by simp [row_length])]; decide)) (by kernel_rfl) (row_one .u8 32 k.now)) ?_
    simp only [Act.put]
    replace M := M.setPart (row .u8 32 k.now) 33 (by rw [row32, flat_len _ [1, 32, 32, 1] (by simp [row_length])]; decide)
    rw [flat_set _ [1, 32, 32, 1] (by simp [row_length]) 2 33 _ (row .u8 32 k.now) rfl rfl (by rw [row32, row32])] at M
    replace hwz := Nat.le_trans hwz (Off.size ((Off.refl [R] _).setAll (b := R) mS 33 (row .u8 32 k.now)))
    replace OF := OF.and1 ((Off.refl [R] _).setAll (b := R) mS 33 (row .u8 32 k.now)) (.inl (by simp))
    generalize w.setCells R 33 (row .u8 32 k.now) = w1 at M hwz OF ⊢
    replace M : Mm w0 ((R, [[Value.int .i64 k.e], row .u8 32 k.now, row .u8 32 k.now, [Value.bool k.has]].flatten) :: l) w1 := M
    first | show Exit.then _ _ _ _ _ | show Exit.inBlock _ _ _ _ _
    go_upto_region 4 with fail
    refine wp_region_list ?_
    refine readL (.pointer (some ⟨R, 0, none⟩)) rfl (by kernel_rfl) ?_
    simp only [aP, lI, l0, lS]
    refine readL (.pointer (some ⟨R, 0, none⟩)) rfl (by kernel_rfl) ?_
    simp only [aP, lI, l0, lS]
    refine readL (.pointer (some ⟨R, 65, none⟩)) rfl (by kernel_rfl) ?_
    simp only [aP, lI, l0, lS]
    refine skipOpL rfl (storeAny (.bool true) R 65 4 _ _ rfl rfl rfl rfl rfl (M.isSome mS 65 (by rw [flat_len _ [1, 32, 32, 1] (by simp [row_length])]; decide)) (M.free mS 65 (by rw [flat_len _ [1, 32, 32, 1] (by simp [row_length])]; decide)) (by kernel_rfl)) ?_
    simp only [Act.put]
    replace M := M.set 65 (by rw [flat_len _ [1, 32, 32, 1] (by simp [row_length])]; decide) (.bool true)
    rw [flat_set1 _ [1, 32, 32, 1] (by simp [row_length]) 3 65 _ (.bool true) rfl rfl] at M
    replace hwz := Nat.le_trans hwz (Off.size ((Off.refl [R] _).set (b := R) mS 65 (.bool true)))
    replace OF := OF.and1 ((Off.refl [R] _).set (b := R) mS 65 (.bool true)) (.inl (by simp))
    generalize w1.setCell ⟨R, 65, none⟩ (.bool true) = w2 at M hwz OF ⊢
    replace M : Mm w0 ((R, [[Value.int .i64 k.e], row .u8 32 k.now, row .u8 32 k.now, [Value.bool true]].flatten) :: l) w2 := M
    first | show Exit.then _ _ _ _ _ | show Exit.inBlock _ _ _ _ _
    go_upto_region 5 with fail
    refine wp_region_list ?_
    refine readL (.pointer (some ⟨R, 0, none⟩)) rfl (by kernel_rfl) ?_
    simp only [aP, lI, l0, lS]
    refine readL (.pointer (some ⟨R, 0, none⟩)) rfl (by kernel_rfl) ?_
    simp only [aP, lI, l0, lS]
    refine readL (.pointer (some ⟨R, 0, none⟩)) rfl (by kernel_rfl) ?_
    simp only [aP, lI, l0, lS]
    refine readL (.pointer (some ⟨R, 1, none⟩)) rfl (by kernel_rfl) ?_
    simp only [aP, lI, l0, lS]
    refine readL (.agg (row .u8 32 k.now).toArray) rfl (loadN 23 _ ⟨R, 1, none⟩ (row .u8 32 k.now) rfl rfl (fun _ => by kernel_rfl) (fun _ => by rw [row32]; kernel_rfl) (M.part mS 1 _ (flat_part _ [1, 32, 32, 1] (by simp [row_length]) 1 1 _ rfl rfl))) ?_
    simp only [aP, lI, l0, lS]
    refine callL rfl (fun _ => by kernel_rfl) (krefLater_any k.now hw.now _) ?_
    rintro e w3 ⟨rfl, l⟩
    replace M := M.call l
    replace hwz := Nat.le_trans hwz l.size
    replace OF := OF.below l
    clear l
    refine ⟨_, rfl, ?_⟩
    simp only [aP, lI, l0, lS]
    refine readL (.pointer (some ⟨R, 0, none⟩)) rfl (by kernel_rfl) ?_
    simp only [aP, lI, l0, lS]
    refine readL (.pointer (some ⟨R, 1, none⟩)) rfl (by kernel_rfl) ?_
    simp only [aP, lI, l0, lS]
    refine skipOpL rfl (storeP (row .u8 32 (ylt k.now)) R 1 23 _ _ rfl rfl rfl (M.thereP mS 1 32 (by rw [flat_len _ [1, 32, 32, 1] (by simp [row_length])]; decide)) (by kernel_rfl) (row_one .u8 32 (ylt k.now))) ?_
    simp only [Act.put]
    replace M := M.setPart (row .u8 32 (ylt k.now)) 1 (by rw [row32, flat_len _ [1, 32, 32, 1] (by simp [row_length])]; decide)
    rw [flat_set _ [1, 32, 32, 1] (by simp [row_length]) 1 1 _ (row .u8 32 (ylt k.now)) rfl rfl (by rw [row32, row32])] at M
    replace hwz := Nat.le_trans hwz (Off.size ((Off.refl [R] _).setAll (b := R) mS 1 (row .u8 32 (ylt k.now))))
    replace OF := OF.and1 ((Off.refl [R] _).setAll (b := R) mS 1 (row .u8 32 (ylt k.now))) (.inl (by simp))
    generalize w3.setCells R 1 (row .u8 32 (ylt k.now)) = w4 at M hwz OF ⊢
    replace M : Mm w0 ((R, [[Value.int .i64 k.e], row .u8 32 (ylt k.now), row .u8 32 k.now, [Value.bool true]].flatten) :: l) w4 := M
    first | show Exit.then _ _ _ _ _ | show Exit.inBlock _ _ _ _ _
    go_upto_region 6 with fail
    refine wp_region_list ?_
    refine readL (.pointer (some ⟨R, 0, none⟩)) rfl (by kernel_rfl) ?_
    simp only [aP, lI, l0, lS]
    refine readL (.pointer (some ⟨R, 0, none⟩)) rfl (by kernel_rfl) ?_
    simp only [aP, lI, l0, lS]
    refine readL (.pointer (some ⟨R, 0, none⟩)) rfl (by kernel_rfl) ?_
    simp only [aP, lI, l0, lS]
    refine readL (.int .i64 k.e) rfl (load1 3 _ ⟨R, 0, none⟩ _ rfl rfl (fun _ => by kernel_rfl) (M.get mS 0 _ (flat_get _ [1, 32, 32, 1] (by simp [row_length]) 0 0 _ rfl rfl))) ?_
    simp only [aP, lI, l0, lS]
    refine readL (.int .i64 (k.e + 1)) rfl (addI .i64 _ _ _ _ _ _ _ rfl rfl rfl (by rw [IntKind.wrap_i64]; omega) _) ?_
    simp only [aP, lI, l0, lS]
    refine readL (.pointer (some ⟨R, 0, none⟩)) rfl (by kernel_rfl) ?_
    simp only [aP, lI, l0, lS]
    refine readL (.pointer (some ⟨R, 0, none⟩)) rfl (by kernel_rfl) ?_
    simp only [aP, lI, l0, lS]
    refine skipOpL rfl (storeAny (.int .i64 (k.e + 1)) R 0 3 _ _ rfl rfl rfl rfl rfl (M.isSome mS 0 (by rw [flat_len _ [1, 32, 32, 1] (by simp [row_length])]; decide)) (M.free mS 0 (by rw [flat_len _ [1, 32, 32, 1] (by simp [row_length])]; decide)) (by kernel_rfl)) ?_
    simp only [Act.put]
    replace M := M.set 0 (by rw [flat_len _ [1, 32, 32, 1] (by simp [row_length])]; decide) (.int .i64 (k.e + 1))
    rw [flat_set1 _ [1, 32, 32, 1] (by simp [row_length]) 0 0 _ (.int .i64 (k.e + 1)) rfl rfl] at M
    replace hwz := Nat.le_trans hwz (Off.size ((Off.refl [R] _).set (b := R) mS 0 (.int .i64 (k.e + 1))))
    replace OF := OF.and1 ((Off.refl [R] _).set (b := R) mS 0 (.int .i64 (k.e + 1))) (.inl (by simp))
    generalize w4.setCell ⟨R, 0, none⟩ (.int .i64 (k.e + 1)) = w5 at M hwz OF ⊢
    replace M : Mm w0 ((R, [[Value.int .i64 (k.e + 1)], row .u8 32 (ylt k.now), row .u8 32 k.now, [Value.bool true]].flatten) :: l) w5 := M
    first | show Exit.then _ _ _ _ _ | show Exit.inBlock _ _ _ _ _
    go_upto_region 7 with fail
    refine wp_region_list ?_
    refine readL (.int .i64 0) rfl (by kernel_rfl) ?_
    simp only [aP, lI, l0, lS]
    first | show Exit.then _ _ _ _ _ | show Exit.inBlock _ _ _ _ _
    replace M : Mm w0 ((R, ykc ⟨k.e + 1, ylt k.now, k.now, true⟩) :: l) w5 := M
    have hE := show Hid _ from (show ynE k = 0 from if_neg h1)
    have hA := show Hid _ from yad_on h1
    have HS := show Hid _ from (And.intro M OF)
    clear M OF
    go_wp2
    go_ret
    exact ⟨by rw [hE.out]; rfl, by rw [hA.out]; exact HS.out.1, HS.out.2⟩
section
section
variable {w0 w : World} {g x t : List (Nat × List Value)}
end
section
variable {α : Type} (x a b c g t : List α)
theorem pull0 : (x ++ (g ++ t)).Perm (g ++ (x ++ t)) := by
  rw [← List.append_assoc, ← List.append_assoc]
  exact List.perm_append_comm.append_right t
theorem pull1 : (x ++ (a ++ (g ++ t))).Perm (g ++ (x ++ (a ++ t))) := by
  have := pull0 (x ++ a) g t
  rw [List.append_assoc, List.append_assoc] at this
  exact this
end
end
def bplc (j : Nat) : Int := if j % 4 = 0 then (pA (j / 4) : Int) else if j % 4 = 1 then (pB (j / 4) : Int) else if j % 4 = 2 then (pC (j / 4) : Int) else (pD (j / 4) : Int)
structure BGlob (w : World) : Prop where
  first : ∀ j, j < 8 → w.cell? ⟨0, j, none⟩ = some (.int .u32 (iv j))
  order : ∀ j, j < 160 → w.cell? ⟨2, j, none⟩ = some (.int .u8 (sgL.getD j 0 : Nat))
  place : ∀ j, j < 32 → w.cell? ⟨1, j, none⟩ = some (.int .u8 (bplc j))
  size : 3 ≤ w.heap.size
theorem BGlob.below {w w' : World} (h : BGlob w) {B : Nat} (l : Below B w w') (hB : 3 ≤ B) : BGlob w' :=
  ⟨fun j hj => by rw [l.cell (p := ⟨0, j, none⟩) (Nat.lt_of_lt_of_le (show 0 < 3 by decide) hB)]; exact h.first j hj, fun j hj => by rw [l.cell (p := ⟨2, j, none⟩) (Nat.lt_of_lt_of_le (show 2 < 3 by decide) hB)]; exact h.order j hj, fun j hj => by rw [l.cell (p := ⟨1, j, none⟩) (Nat.lt_of_lt_of_le (show 1 < 3 by decide) hB)]; exact h.place j hj, Nat.le_trans h.size l.size⟩
theorem BGlob.four {w : World} (h : BGlob w) (k : Nat) (hk : k < 8) : w.cell? ⟨1, k * 4, none⟩ = some (.int .u8 (pA k)) ∧ w.cell? ⟨1, k * 4 + 1, none⟩ = some (.int .u8 (pB k)) ∧ w.cell? ⟨1, k * 4 + 2, none⟩ = some (.int .u8 (pC k)) ∧ w.cell? ⟨1, k * 4 + 3, none⟩ = some (.int .u8 (pD k)) := by
  have e1 : bplc (k * 4) = (pA k : Int) := by unfold bplc; rw [if_pos (by omega), show k * 4 / 4 = k by omega]
  have e2 : bplc (k * 4 + 1) = (pB k : Int) := by unfold bplc; rw [if_neg (by omega), if_pos (by omega), show (k * 4 + 1) / 4 = k by omega]
  have e3 : bplc (k * 4 + 2) = (pC k : Int) := by unfold bplc; rw [if_neg (by omega), if_neg (by omega), if_pos (by omega), show (k * 4 + 2) / 4 = k by omega]
  have e4 : bplc (k * 4 + 3) = (pD k : Int) := by unfold bplc; rw [if_neg (by omega), if_neg (by omega), if_neg (by omega), show (k * 4 + 3) / 4 = k by omega]
  rw [← e1, ← e2, ← e3, ← e4]
  exact ⟨h.place _ (by omega), h.place _ (by omega), h.place _ (by omega), h.place _ (by omega)⟩
theorem BGlob.sg {w : World} (h : BGlob w) (r i : Nat) (hr : r < 10) (hi : i < 16) : w.cell? ⟨2, r * 16 + i, none⟩ = some (.int .u8 (sg r i)) := by
  have e : (sgL.getD (r * 16 + i) 0 : Nat) = Go.Proofs.YtckohmdmjhaknaaDoor.sg r i := by unfold Go.Proofs.YtckohmdmjhaknaaDoor.sg; rw [Nat.mul_comm]
  rw [← e]
  exact h.order _ (by omega)
structure KeysOK (I : Value → Kys → List (Nat × List Value) → Prop) : Prop where
  ptr : ∀ v k bs, I v k bs → ∃ R, v = .pointer (some ⟨R, 0, none⟩)
  new : ∀ (w0 w : World) (l : List (Nat × List Value)) (r : Nat → Int), BGlob w0 → In 256 32 r → Mm w0 l w →
    Calls Tryd.prog 7 #[.agg (row .u8 32 r).toArray] w fun e w' => ∃ v bs, e = .returned v ∧ I v (ynew r) bs ∧ Mm w0 (bs ++ l) w' ∧ Below w.heap.size w w'
  key : ∀ (w0 w : World) (v : Value) (k : Kys) (bs l : List (Nat × List Value)) (n : Int), BGlob w0 → KysW k → i64 n → I v k bs → Mm w0 (bs ++ l) w →
    Calls Tryd.prog 13 #[v, .int .i64 n] w fun e w' => e = .returned (.tuple #[.agg (row .u8 32 (ykK k n)).toArray, .int .i64 (ykE k n)]) ∧ Below w.heap.size w w'
  nxt : ∀ (w0 w : World) (v : Value) (k : Kys) (bs l : List (Nat × List Value)), BGlob w0 → KysW k → I v k bs → Mm w0 (bs ++ l) w →
    Calls Tryd.prog 15 #[v] w fun e w' => e = .returned (.tuple #[.agg (row .u8 32 (ynK k)).toArray, .int .i64 (ynE k)]) ∧ Below w.heap.size w w'
  adv : ∀ (w0 w : World) (v : Value) (k : Kys) (bs l : List (Nat × List Value)), BGlob w0 → KysW k → I v k bs → Mm w0 (bs ++ l) w →
    Calls Tryd.prog 10 #[v] w fun e w' => e = .returned (.int .i64 (ynE k)) ∧ ∃ bs', I v (yad k) bs' ∧ (∀ p ∈ bs', p.1 ∈ bs.map Prod.fst ∨ w.heap.size ≤ p.1) ∧ Mm w0 (bs' ++ l) w' ∧ Off (bs.map Prod.fst) w w'
  epo : ∀ (w0 w : World) (v : Value) (k : Kys) (bs l : List (Nat × List Value)), KysW k → I v k bs → Mm w0 (bs ++ l) w →
    Calls Tryd.prog 12 #[v] w fun e w' => e = .returned (.int .i64 k.e) ∧ Below w.heap.size w w'
def KeysCl (I : Value → Kys → List (Nat × List Value) → Prop) : Prop :=
  ∀ (w0 w : World) (v : Value) (k : Kys) (bs l : List (Nat × List Value)), KysW k → I v k bs → Mm w0 (bs ++ l) w →
    Calls Tryd.prog 9 #[v] w fun e w' => ∃ v' bs', e = .returned v' ∧ I v' k bs' ∧ (∀ p ∈ bs', w.heap.size ≤ p.1) ∧ Mm w0 (bs' ++ (bs ++ l)) w' ∧ Below w.heap.size w w'
theorem yad_w {k : Kys} (h : KysW k) : KysW (yad k) := by
  have h1 := h.lo
  have h2 := h.hi
  by_cases c : 65535 ≤ k.e
  · rw [yad_end c]; exact h
  · rw [yad_on c]; exact ⟨show 0 ≤ k.e + 1 by omega, show k.e + 1 ≤ 65535 by omega, ylt_in _, h.now⟩
theorem bl_rng (n : Nat) (f : Nat → Int) (j : Nat) (h : j < n) : bl ((List.range n).map f) j = f j := by
  unfold bl
  rw [List.getD_eq_getElem?_getD, List.getElem?_map, List.getElem?_range h]
  rfl
def evL (yo yi : Nat → Int) (len : Nat) (z : Nat → Int) : List Int :=
  evT (64 + len) (tx2 64 yi len z) (nbt (64 + len)) 0 (bh0 0 32) fun h => evT (64 + 32) (tx2 64 yo 32 (bout h)) (nbt (64 + 32)) 0 (bh0 0 32) fun g => (List.range 32).map (bout g)
theorem evL_eq (kl : Nat) (key : Nat → Int) (len : Nat) (z : Nat → Int) : evL (bxx 92 (bkk kl key)) (bxx 54 (bkk kl key)) len z = (List.range 32).map (bmac kl key len z) := by
  unfold evL
  have hc : ∀ h h' : Nat → Int, (∀ i, i < 8 → h i = h' i) → (List.range 32).map (bout h) = (List.range 32).map (bout h') := fun h h' e => List.map_congr_left fun j hj => bout_congr h h' e j (List.mem_range.1 hj)
  have e2 : ∀ h : Nat → Int, evT (64 + 32) (tx2 64 (bxx 92 (bkk kl key)) 32 (bout h)) (nbt (64 + 32)) 0 (bh0 0 32) (fun g => (List.range 32).map (bout g)) = (List.range 32).map (bout (tH (bh0 0 32) (64 + 32) (tx2 64 (bxx 92 (bkk kl key)) 32 (bout h)) (0 + nbt (64 + 32)))) :=
    fun h => evT_eq (bh0 0 32) _ _ (fun g => (List.range 32).map (bout g)) hc _ 0 _ (fun _ _ => rfl)
  have ec : ∀ h h' : Nat → Int, (∀ i, i < 8 → h i = h' i) → tx2 64 (bxx 92 (bkk kl key)) 32 (bout h) = tx2 64 (bxx 92 (bkk kl key)) 32 (bout h') := fun h h' e => by
    funext q
    unfold tx2 padz
    by_cases e1 : q < 64
    · rw [if_pos e1, if_pos e1]
    · rw [if_neg e1, if_neg e1]
      by_cases e3 : q - 64 < 32
      · rw [if_pos e3, if_pos e3]; exact bout_congr h h' e _ e3
      · rw [if_neg e3, if_neg e3]
  rw [evT_eq (bh0 0 32) _ _ _ (fun h h' e => by rw [ec h h' e]) _ 0 (bh0 0 32) (fun _ _ => rfl), e2, Nat.zero_add, Nat.zero_add]
  unfold bmac
  rw [← bhash_tx2 64 (bxx 54 (bkk kl key)) len z, ← bhash_tx2 64 (bxx 92 (bkk kl key)) 32]
def y7 : List Int := [7, 0, 0, 0, 0, 0, 0, 0, 0, 0, 0, 0, 0, 0, 0, 0, 0, 0, 0, 0, 0, 0, 0, 0, 0, 0, 0, 0, 0, 0, 0, 0]
def y71 : List Int := [244, 126, 84, 112, 46, 30, 159, 104, 108, 87, 235, 233, 235, 79, 234, 89, 250, 102, 89, 69, 87, 39, 177, 54, 209, 89, 67, 214, 102, 151, 16, 200]
def y72 : List Int := [161, 53, 68, 54, 132, 36, 195, 119, 252, 112, 216, 4, 198, 135, 23, 11, 129, 166, 98, 68, 36, 18, 101, 81, 171, 244, 225, 29, 234, 229, 32, 99]
theorem ylt_ev (l l' : List Int) (h : evL (bxx 92 (bkk 32 (bl l))) (bxx 54 (bkk 32 (bl l))) (0 + 12 + 1) (ktx 12 (zs sLater) 0 (fun _ => 0)) = l') (j : Nat) (hj : j < 32) : ylt (bl l) j = bl l' j := by
  rw [evL_eq] at h
  rw [← h]
  exact (bl_rng 32 _ j hj).symm
theorem yof_ev (l : List Int) (x : Int) (h : evM (bxx 92 (bkk 32 (bl l))) (bxx 54 (bkk 32 (bl l))) (0 + 10 + 1) (ktx 10 (zs sKey) 0 (fun _ => 0)) 0 = x) : yof (bl l) 0 = x := by
  rw [← h]
  exact evM_eq 32 (bl l) _ _ 0 (by decide)
theorem y7_later : ∀ j, j < 32 → ylt (bl y7) j = bl y71 j := ylt_ev y7 y71 (by decide +kernel)
theorem y71_later : ∀ j, j < 32 → ylt (bl y71) j = bl y72 j := ylt_ev y71 y72 (by decide +kernel)
theorem y7_of : yof (bl y7) 0 = 12 := yof_ev _ _ (by decide +kernel)
theorem y71_of : yof (bl y71) 0 = 145 := yof_ev _ _ (by decide +kernel)
theorem y72_of : yof (bl y72) 0 = 124 := yof_ev _ _ (by decide +kernel)
theorem y7_in : In 256 32 (bl y7) := fun j hj => (by decide : ∀ j, j < 32 → 0 ≤ bl y7 j ∧ bl y7 j < 256) j hj
theorem bkk_congr32 {f g : Nat → Int} (h : ∀ j, j < 32 → f j = g j) : bkk 32 f = bkk 32 g := by
  funext j
  unfold bkk
  rw [if_pos (show 32 ≤ 64 by decide), if_pos (show 32 ≤ 64 by decide)]
  by_cases e : j < 32
  · rw [if_pos e, if_pos e, h j e]
  · rw [if_neg e, if_neg e]
theorem bmac_key {f g : Nat → Int} (h : ∀ j, j < 32 → f j = g j) (len : Nat) (z : Nat → Int) : bmac 32 f len z = bmac 32 g len z := by
  unfold bmac
  rw [bkk_congr32 h]
theorem yof_congr {f g : Nat → Int} (h : ∀ j, j < 32 → f j = g j) : yof f = yof g := bmac_key h _ _
theorem ylt_congr {f g : Nat → Int} (h : ∀ j, j < 32 → f j = g j) : ylt f = ylt g := bmac_key h _ _
theorem ne15 {f g : Nat → Int} (hf : In 256 32 f) (hg : In 256 32 g) (h : f 0 ≠ g 0) : (!decide (val 256 f 32 = val 256 g 32)) = true := by
  rw [decide_eq_false (fun e => h (val_inj 256 (by decide) f g 32 hf hg e 0 (by decide)))]
  rfl
theorem y1_of : yof (ylt (bl y7)) 0 = 145 := by rw [yof_congr y7_later]; exact y71_of
theorem y2_of : yof (ylt (ylt (bl y7))) 0 = 124 := by rw [ylt_congr y7_later, yof_congr y71_later]; exact y72_of
theorem n15_1 : (!decide (val 256 (yof (bl y7)) 32 = val 256 (yof (ylt (bl y7))) 32)) = true := ne15 (yof_in _) (yof_in _) (by rw [y7_of, y1_of]; decide)
theorem n15_2 : (!decide (val 256 (yof (ylt (bl y7))) 32 = val 256 (yof (ylt (ylt (bl y7)))) 32)) = true := ne15 (yof_in _) (yof_in _) (by rw [y1_of, y2_of]; decide)
theorem shown15_any {I : Value → Kys → List (Nat × List Value) → Prop} (hK : KeysOK I) (w0 : World) (hg : BGlob w0) :
    Calls Tryd.prog 6 #[] w0 fun e w' => e = .returned (.bool true) ∧ Below w0.heap.size w0 w' := by
  have M := Mm.init w0
  go_enter Tryd.func6, Tryd.ntmps6
  have nv1 := show Hid _ from n15_1
  have nv2 := show Hid _ from n15_2
  go_upto_region 0 with fail
  refine wp_region_list ?_
  refine readL (.bool false) rfl (by kernel_rfl) ?_
  simp only [aP, lI, l0]
  first | show Exit.then _ _ _ _ _ | show Exit.inBlock _ _ _ _ _
  go_upto_region 1 with fail
  refine wp_region_list ?_
  refine readL (.agg (row .u8 32 (bl y7)).toArray) rfl (by kernel_rfl) ?_
  simp only [aP, lI, l0, lS]
  have key := hK.new w0 _ _ (bl y7) hg y7_in M
  refine callL rfl (fun _ => by kernel_rfl) key ?_
  clear key
  rintro e w1 ⟨v_, ba0, rfl, hIa, M', l⟩
  obtain ⟨Ra, rfl⟩ := hK.ptr _ _ _ hIa
  clear M l
  have M := M'.perm (pull0 ([] : List (Nat × List Value)) ba0 ([] : List (Nat × List Value))).symm
  clear M'
  replace M : Mm w0 ((ba0 ++ ([] : List (Nat × List Value)))) w1 := M
  refine ⟨_, rfl, ?_⟩
  simp only [aP, lI, l0, lS]
  refine readL (.pointer (some ⟨Ra, 0, none⟩)) rfl (by kernel_rfl) ?_
  simp only [aP, lI, l0, lS]
  first | show Exit.then _ _ _ _ _ | show Exit.inBlock _ _ _ _ _
  go_upto_region 2 with fail
  refine wp_region_list ?_
  refine readL (.pointer (some ⟨Ra, 0, none⟩)) rfl (by kernel_rfl) ?_
  simp only [aP, lI, l0, lS]
  refine readL (.bool false) rfl (by kernel_rfl) ?_
  simp only [aP, lI, l0, lS]
  first | show Exit.then _ _ _ _ _ | show Exit.inBlock _ _ _ _ _
  go_upto_region 4 with fail
  refine wp_region_list ?_
  refine readL (.pointer (some ⟨Ra, 0, none⟩)) rfl (by kernel_rfl) ?_
  simp only [aP, lI, l0, lS]
  have Mp := M.perm (pull0 ([] : List (Nat × List Value)) ba0 ([] : List (Nat × List Value)))
  have key := hK.epo w0 _ _ (ynew (bl y7)) ba0 _ (ynew_w y7_in) hIa Mp
  clear Mp
  refine callL rfl (fun _ => by kernel_rfl) key ?_
  clear key
  rintro e w2 ⟨rfl, l⟩
  replace M := M.call l
  clear l
  refine ⟨_, rfl, ?_⟩
  simp only [aP, lI, l0, lS]
  refine readL (.int .i64 0) rfl (by kernel_rfl) ?_
  simp only [aP, lI, l0, lS]
  first | show Exit.then _ _ _ _ _ | show Exit.inBlock _ _ _ _ _
  go_upto_region 5 with fail
  refine wp_region_list ?_
  refine readL (.pointer (some ⟨Ra, 0, none⟩)) rfl (by kernel_rfl) ?_
  simp only [aP, lI, l0, lS]
  have Mp := M.perm (pull0 ([] : List (Nat × List Value)) ba0 ([] : List (Nat × List Value)))
  have key := hK.key w0 _ _ (ynew (bl y7)) ba0 _ 1 hg (ynew_w y7_in) (by unfold i64; decide) hIa Mp
  clear Mp
  rw [show ykK (ynew (bl y7)) 1 = (fun _ => 0) from ykK_none (k := ynew (bl y7)) (n := 1) (show ¬ (1 : Int) = 0 by decide) (fun h => absurd (show false = true from h.2) (by decide)), show ykE (ynew (bl y7)) 1 = 150 from ykE_none (k := ynew (bl y7)) (n := 1) (show ¬ (1 : Int) = 0 by decide) (fun h => absurd (show false = true from h.2) (by decide))] at key
  refine callL rfl (fun _ => by kernel_rfl) key ?_
  clear key
  rintro e w3 ⟨rfl, l⟩
  replace M := M.call l
  clear l
  refine ⟨_, rfl, ?_⟩
  simp only [aP, lI, l0, lS]
  refine readL (.tuple #[.agg (row .u8 32 (fun _ => 0)).toArray, .int .i64 150]) rfl (by kernel_rfl) ?_
  simp only [aP, lI, l0, lS]
  refine readL (.agg (row .u8 32 (fun _ => 0)).toArray) rfl (by kernel_rfl) ?_
  simp only [aP, lI, l0, lS]
  refine readL (.int .i64 150) rfl (by kernel_rfl) ?_
  simp only [aP, lI, l0, lS]
  refine actL (w' := w3.alloc (.cells zu8_32 23)) (.pointer (some ⟨w3.heap.size, 0, none⟩)) rfl (by kernel_rfl) ?_
  simp only [aP, lI, l0, lS]
  replace M := M.box zu8_32 23 w3.heap.size rfl
  generalize w3.alloc (.cells zu8_32 23) = w4 at M ⊢
  generalize w3.heap.size = B4 at M ⊢
  replace M : Mm w0 ((B4, row .u8 32 (fun _ => 0)) :: (ba0 ++ ([] : List (Nat × List Value)))) w4 := M
  refine skipOpL rfl (storeP (row .u8 32 (fun _ => 0)) B4 0 23 _ _ rfl rfl rfl (M.thereP mS 0 32 (Nat.le_of_ble_eq_true rfl)) (by kernel_rfl) (row_one .u8 32 (fun _ => 0))) ?_
  simp only [Act.put]
  replace M := M.setAll (row .u8 32 (fun _ => 0)) (by first | (rw [row32, row32]; done) | (rw [row32]; rfl) | (rw [row32]; done))
  generalize w4.setCells B4 0 (row .u8 32 (fun _ => 0)) = w5 at M  ⊢
  refine readL (.int .i64 150) rfl (by kernel_rfl) ?_
  simp only [aP, lI, l0, lS]
  first | show Exit.then _ _ _ _ _ | show Exit.inBlock _ _ _ _ _
  go_upto_region 6 with fail
  refine wp_region_list ?_
  refine readL (.pointer (some ⟨Ra, 0, none⟩)) rfl (by kernel_rfl) ?_
  simp only [aP, lI, l0, lS]
  have Mp := M.perm (pull0 ([(B4, row .u8 32 (fun _ => 0))] : List (Nat × List Value)) ba0 ([] : List (Nat × List Value)))
  have key := hK.key w0 _ _ (ynew (bl y7)) ba0 _ (-1) hg (ynew_w y7_in) (by unfold i64; decide) hIa Mp
  clear Mp
  rw [show ykK (ynew (bl y7)) (-1) = (fun _ => 0) from ykK_none (k := ynew (bl y7)) (n := (-1)) (show ¬ ((-1) : Int) = 0 by decide) (fun h => absurd (show false = true from h.2) (by decide)), show ykE (ynew (bl y7)) (-1) = 150 from ykE_none (k := ynew (bl y7)) (n := (-1)) (show ¬ ((-1) : Int) = 0 by decide) (fun h => absurd (show false = true from h.2) (by decide))] at key
  refine callL rfl (fun _ => by kernel_rfl) key ?_
  clear key
  rintro e w6 ⟨rfl, l⟩
  replace M := M.call l
  clear l
  refine ⟨_, rfl, ?_⟩
  simp only [aP, lI, l0, lS]
  refine readL (.tuple #[.agg (row .u8 32 (fun _ => 0)).toArray, .int .i64 150]) rfl (by kernel_rfl) ?_
  simp only [aP, lI, l0, lS]
  refine readL (.agg (row .u8 32 (fun _ => 0)).toArray) rfl (by kernel_rfl) ?_
  simp only [aP, lI, l0, lS]
  refine readL (.int .i64 150) rfl (by kernel_rfl) ?_
  simp only [aP, lI, l0, lS]
  refine actL (w' := w6.alloc (.cells zu8_32 23)) (.pointer (some ⟨w6.heap.size, 0, none⟩)) rfl (by kernel_rfl) ?_
  simp only [aP, lI, l0, lS]
  replace M := M.box zu8_32 23 w6.heap.size rfl
  generalize w6.alloc (.cells zu8_32 23) = w7 at M ⊢
  generalize w6.heap.size = B7 at M ⊢
  replace M : Mm w0 ((B7, row .u8 32 (fun _ => 0)) :: (B4, row .u8 32 (fun _ => 0)) :: (ba0 ++ ([] : List (Nat × List Value)))) w7 := M
  refine skipOpL rfl (storeP (row .u8 32 (fun _ => 0)) B7 0 23 _ _ rfl rfl rfl (M.thereP mS 0 32 (Nat.le_of_ble_eq_true rfl)) (by kernel_rfl) (row_one .u8 32 (fun _ => 0))) ?_
  simp only [Act.put]
  replace M := M.setAll (row .u8 32 (fun _ => 0)) (by first | (rw [row32, row32]; done) | (rw [row32]; rfl) | (rw [row32]; done))
  generalize w7.setCells B7 0 (row .u8 32 (fun _ => 0)) = w8 at M  ⊢
  refine readL (.int .i64 150) rfl (by kernel_rfl) ?_
  simp only [aP, lI, l0, lS]
  first | show Exit.then _ _ _ _ _ | show Exit.inBlock _ _ _ _ _
  go_upto_region 7 with fail
  refine wp_region_list ?_
  refine readL (.pointer (some ⟨Ra, 0, none⟩)) rfl (by kernel_rfl) ?_
  simp only [aP, lI, l0, lS]
  have Mp := M.perm (pull0 ([(B7, row .u8 32 (fun _ => 0)), (B4, row .u8 32 (fun _ => 0))] : List (Nat × List Value)) ba0 ([] : List (Nat × List Value)))
  have key := hK.key w0 _ _ (ynew (bl y7)) ba0 _ 0 hg (ynew_w y7_in) (by unfold i64; decide) hIa Mp
  clear Mp
  rw [show ykK (ynew (bl y7)) 0 = yof (bl y7) from ykK_now (k := ynew (bl y7)) (n := 0) rfl, show ykE (ynew (bl y7)) 0 = 0 from ykE_now (k := ynew (bl y7)) (n := 0) rfl] at key
  refine callL rfl (fun _ => by kernel_rfl) key ?_
  clear key
  rintro e w9 ⟨rfl, l⟩
  replace M := M.call l
  clear l
  refine ⟨_, rfl, ?_⟩
  simp only [aP, lI, l0, lS]
  refine readL (.tuple #[.agg (row .u8 32 (yof (bl y7))).toArray, .int .i64 0]) rfl (by kernel_rfl) ?_
  simp only [aP, lI, l0, lS]
  refine readL (.agg (row .u8 32 (yof (bl y7))).toArray) rfl (by kernel_rfl) ?_
  simp only [aP, lI, l0, lS]
  refine readL (.int .i64 0) rfl (by kernel_rfl) ?_
  simp only [aP, lI, l0, lS]
  refine actL (w' := w9.alloc (.cells zu8_32 23)) (.pointer (some ⟨w9.heap.size, 0, none⟩)) rfl (by kernel_rfl) ?_
  simp only [aP, lI, l0, lS]
  replace M := M.box zu8_32 23 w9.heap.size rfl
  generalize w9.alloc (.cells zu8_32 23) = w10 at M ⊢
  generalize w9.heap.size = B10 at M ⊢
  replace M : Mm w0 ((B10, row .u8 32 (fun _ => 0)) :: (B7, row .u8 32 (fun _ => 0)) :: (B4, row .u8 32 (fun _ => 0)) :: (ba0 ++ ([] : List (Nat × List Value)))) w10 := M
  refine skipOpL rfl (storeP (row .u8 32 (yof (bl y7))) B10 0 23 _ _ rfl rfl rfl (M.thereP mS 0 32 (Nat.le_of_ble_eq_true rfl)) (by kernel_rfl) (row_one .u8 32 (yof (bl y7)))) ?_
  simp only [Act.put]
  replace M := M.setAll (row .u8 32 (yof (bl y7))) (by first | (rw [row32, row32]; done) | (rw [row32]; rfl) | (rw [row32]; done))
  generalize w10.setCells B10 0 (row .u8 32 (yof (bl y7))) = w11 at M  ⊢
  refine readL (.int .i64 0) rfl (by kernel_rfl) ?_
  simp only [aP, lI, l0, lS]
  first | show Exit.then _ _ _ _ _ | show Exit.inBlock _ _ _ _ _
  go_upto_region 8 with fail
  refine wp_region_list ?_
  refine readL (.pointer (some ⟨Ra, 0, none⟩)) rfl (by kernel_rfl) ?_
  simp only [aP, lI, l0, lS]
  have Mp := M.perm (pull0 ([(B10, row .u8 32 (yof (bl y7))), (B7, row .u8 32 (fun _ => 0)), (B4, row .u8 32 (fun _ => 0))] : List (Nat × List Value)) ba0 ([] : List (Nat × List Value)))
  have key := hK.adv w0 _ _ (ynew (bl y7)) ba0 _ hg (ynew_w y7_in) hIa Mp
  clear Mp
  rw [show ynE (ynew (bl y7)) = 0 from if_neg (show ¬ (65535 : Int) ≤ 0 by decide), show yad (ynew (bl y7)) = (⟨1, ylt (bl y7), bl y7, true⟩ : Kys) from yad_on (show ¬ (65535 : Int) ≤ 0 by decide)] at key
  refine callL rfl (fun _ => by kernel_rfl) key ?_
  clear key
  rintro e w12 ⟨rfl, ba1, hI_, -, M', -⟩
  clear M hIa
  have hIa := hI_
  clear hI_
  have M : Mm w0 ((B10, row .u8 32 (yof (bl y7))) :: (B7, row .u8 32 (fun _ => 0)) :: (B4, row .u8 32 (fun _ => 0)) :: (ba1 ++ ([] : List (Nat × List Value)))) w12 := M'.perm (pull0 ([(B10, row .u8 32 (yof (bl y7))), (B7, row .u8 32 (fun _ => 0)), (B4, row .u8 32 (fun _ => 0))] : List (Nat × List Value)) ba1 ([] : List (Nat × List Value))).symm
  clear M'
  refine ⟨_, rfl, ?_⟩
  simp only [aP, lI, l0, lS]
  refine readL (.int .i64 0) rfl (by kernel_rfl) ?_
  simp only [aP, lI, l0, lS]
  first | show Exit.then _ _ _ _ _ | show Exit.inBlock _ _ _ _ _
  go_upto_region 9 with fail
  refine wp_region_list ?_
  refine readL (.pointer (some ⟨Ra, 0, none⟩)) rfl (by kernel_rfl) ?_
  simp only [aP, lI, l0, lS]
  have Mp := M.perm (pull0 ([(B10, row .u8 32 (yof (bl y7))), (B7, row .u8 32 (fun _ => 0)), (B4, row .u8 32 (fun _ => 0))] : List (Nat × List Value)) ba1 ([] : List (Nat × List Value)))
  have key := hK.adv w0 _ _ (⟨1, ylt (bl y7), bl y7, true⟩ : Kys) ba1 _ hg ⟨show (0 : Int) ≤ 1 by decide, show (1 : Int) ≤ 65535 by decide, ylt_in _, y7_in⟩ hIa Mp
  clear Mp
  rw [show ynE (⟨1, ylt (bl y7), bl y7, true⟩ : Kys) = 0 from if_neg (show ¬ (65535 : Int) ≤ 1 by decide), show yad (⟨1, ylt (bl y7), bl y7, true⟩ : Kys) = (⟨2, ylt (ylt (bl y7)), ylt (bl y7), true⟩ : Kys) from yad_on (show ¬ (65535 : Int) ≤ 1 by decide)] at key
  refine callL rfl (fun _ => by kernel_rfl) key ?_
  clear key
  rintro e w13 ⟨rfl, ba2, hI_, -, M', -⟩
  clear M hIa
  have hIa := hI_
  clear hI_
  have M : Mm w0 ((B10, row .u8 32 (yof (bl y7))) :: (B7, row .u8 32 (fun _ => 0)) :: (B4, row .u8 32 (fun _ => 0)) :: (ba2 ++ ([] : List (Nat × List Value)))) w13 := M'.perm (pull0 ([(B10, row .u8 32 (yof (bl y7))), (B7, row .u8 32 (fun _ => 0)), (B4, row .u8 32 (fun _ => 0))] : List (Nat × List Value)) ba2 ([] : List (Nat × List Value))).symm
  clear M'
  refine ⟨_, rfl, ?_⟩
  simp only [aP, lI, l0, lS]
  refine readL (.int .i64 0) rfl (by kernel_rfl) ?_
  simp only [aP, lI, l0, lS]
  first | show Exit.then _ _ _ _ _ | show Exit.inBlock _ _ _ _ _
  go_upto_region 10 with fail
  refine wp_region_list ?_
  refine readL (.pointer (some ⟨Ra, 0, none⟩)) rfl (by kernel_rfl) ?_
  simp only [aP, lI, l0, lS]
  have Mp := M.perm (pull0 ([(B10, row .u8 32 (yof (bl y7))), (B7, row .u8 32 (fun _ => 0)), (B4, row .u8 32 (fun _ => 0))] : List (Nat × List Value)) ba2 ([] : List (Nat × List Value)))
  have key := hK.key w0 _ _ (⟨2, ylt (ylt (bl y7)), ylt (bl y7), true⟩ : Kys) ba2 _ 0 hg ⟨show (0 : Int) ≤ 2 by decide, show (2 : Int) ≤ 65535 by decide, ylt_in _, ylt_in _⟩ (by unfold i64; decide) hIa Mp
  clear Mp
  rw [show ykK (⟨2, ylt (ylt (bl y7)), ylt (bl y7), true⟩ : Kys) 0 = (fun _ => 0) from ykK_none (k := (⟨2, ylt (ylt (bl y7)), ylt (bl y7), true⟩ : Kys)) (n := 0) (show ¬ (0 : Int) = 2 by decide) (fun h => absurd (show (0 : Int) = 2 - 1 from h.1) (by decide)), show ykE (⟨2, ylt (ylt (bl y7)), ylt (bl y7), true⟩ : Kys) 0 = 150 from ykE_none (k := (⟨2, ylt (ylt (bl y7)), ylt (bl y7), true⟩ : Kys)) (n := 0) (show ¬ (0 : Int) = 2 by decide) (fun h => absurd (show (0 : Int) = 2 - 1 from h.1) (by decide))] at key
  refine callL rfl (fun _ => by kernel_rfl) key ?_
  clear key
  rintro e w14 ⟨rfl, l⟩
  replace M := M.call l
  clear l
  refine ⟨_, rfl, ?_⟩
  simp only [aP, lI, l0, lS]
  refine readL (.tuple #[.agg (row .u8 32 (fun _ => 0)).toArray, .int .i64 150]) rfl (by kernel_rfl) ?_
  simp only [aP, lI, l0, lS]
  refine readL (.agg (row .u8 32 (fun _ => 0)).toArray) rfl (by kernel_rfl) ?_
  simp only [aP, lI, l0, lS]
  refine readL (.int .i64 150) rfl (by kernel_rfl) ?_
  simp only [aP, lI, l0, lS]
  refine actL (w' := w14.alloc (.cells zu8_32 23)) (.pointer (some ⟨w14.heap.size, 0, none⟩)) rfl (by kernel_rfl) ?_
  simp only [aP, lI, l0, lS]
  replace M := M.box zu8_32 23 w14.heap.size rfl
  generalize w14.alloc (.cells zu8_32 23) = w15 at M ⊢
  generalize w14.heap.size = B15 at M ⊢
  replace M : Mm w0 ((B15, row .u8 32 (fun _ => 0)) :: (B10, row .u8 32 (yof (bl y7))) :: (B7, row .u8 32 (fun _ => 0)) :: (B4, row .u8 32 (fun _ => 0)) :: (ba2 ++ ([] : List (Nat × List Value)))) w15 := M
  refine skipOpL rfl (storeP (row .u8 32 (fun _ => 0)) B15 0 23 _ _ rfl rfl rfl (M.thereP mS 0 32 (Nat.le_of_ble_eq_true rfl)) (by kernel_rfl) (row_one .u8 32 (fun _ => 0))) ?_
  simp only [Act.put]
  replace M := M.setAll (row .u8 32 (fun _ => 0)) (by first | (rw [row32, row32]; done) | (rw [row32]; rfl) | (rw [row32]; done))
  generalize w15.setCells B15 0 (row .u8 32 (fun _ => 0)) = w16 at M  ⊢
  refine readL (.int .i64 150) rfl (by kernel_rfl) ?_
  simp only [aP, lI, l0, lS]
  first | show Exit.then _ _ _ _ _ | show Exit.inBlock _ _ _ _ _
  go_upto_region 11 with fail
  refine wp_region_list ?_
  refine readL (.pointer (some ⟨Ra, 0, none⟩)) rfl (by kernel_rfl) ?_
  simp only [aP, lI, l0, lS]
  have Mp := M.perm (pull0 ([(B15, row .u8 32 (fun _ => 0)), (B10, row .u8 32 (yof (bl y7))), (B7, row .u8 32 (fun _ => 0)), (B4, row .u8 32 (fun _ => 0))] : List (Nat × List Value)) ba2 ([] : List (Nat × List Value)))
  have key := hK.key w0 _ _ (⟨2, ylt (ylt (bl y7)), ylt (bl y7), true⟩ : Kys) ba2 _ 1 hg ⟨show (0 : Int) ≤ 2 by decide, show (2 : Int) ≤ 65535 by decide, ylt_in _, ylt_in _⟩ (by unfold i64; decide) hIa Mp
  clear Mp
  rw [show ykK (⟨2, ylt (ylt (bl y7)), ylt (bl y7), true⟩ : Kys) 1 = yof (ylt (bl y7)) from ykK_last (k := (⟨2, ylt (ylt (bl y7)), ylt (bl y7), true⟩ : Kys)) (n := 1) rfl rfl, show ykE (⟨2, ylt (ylt (bl y7)), ylt (bl y7), true⟩ : Kys) 1 = 0 from ykE_last (k := (⟨2, ylt (ylt (bl y7)), ylt (bl y7), true⟩ : Kys)) (n := 1) rfl rfl] at key
  refine callL rfl (fun _ => by kernel_rfl) key ?_
  clear key
  rintro e w17 ⟨rfl, l⟩
  replace M := M.call l
  clear l
  refine ⟨_, rfl, ?_⟩
  simp only [aP, lI, l0, lS]
  refine readL (.tuple #[.agg (row .u8 32 (yof (ylt (bl y7)))).toArray, .int .i64 0]) rfl (by kernel_rfl) ?_
  simp only [aP, lI, l0, lS]
  refine readL (.agg (row .u8 32 (yof (ylt (bl y7)))).toArray) rfl (by kernel_rfl) ?_
  simp only [aP, lI, l0, lS]
  refine readL (.int .i64 0) rfl (by kernel_rfl) ?_
  simp only [aP, lI, l0, lS]
  refine actL (w' := w17.alloc (.cells zu8_32 23)) (.pointer (some ⟨w17.heap.size, 0, none⟩)) rfl (by kernel_rfl) ?_
  simp only [aP, lI, l0, lS]
  replace M := M.box zu8_32 23 w17.heap.size rfl
  generalize w17.alloc (.cells zu8_32 23) = w18 at M ⊢
  generalize w17.heap.size = B18 at M ⊢
  replace M : Mm w0 ((B18, row .u8 32 (fun _ => 0)) :: (B15, row .u8 32 (fun _ => 0)) :: (B10, row .u8 32 (yof (bl y7))) :: (B7, row .u8 32 (fun _ => 0)) :: (B4, row .u8 32 (fun _ => 0)) :: (ba2 ++ ([] : List (Nat × List Value)))) w18 := M
  refine skipOpL rfl (storeP (row .u8 32 (yof (ylt (bl y7)))) B18 0 23 _ _ rfl rfl rfl (M.thereP mS 0 32 (Nat.le_of_ble_eq_true rfl)) (by kernel_rfl) (row_one .u8 32 (yof (ylt (bl y7))))) ?_
  simp only [Act.put]
  replace M := M.setAll (row .u8 32 (yof (ylt (bl y7)))) (by first | (rw [row32, row32]; done) | (rw [row32]; rfl) | (rw [row32]; done))
  generalize w18.setCells B18 0 (row .u8 32 (yof (ylt (bl y7)))) = w19 at M  ⊢
  refine readL (.int .i64 0) rfl (by kernel_rfl) ?_
  simp only [aP, lI, l0, lS]
  first | show Exit.then _ _ _ _ _ | show Exit.inBlock _ _ _ _ _
  go_upto_region 12 with fail
  refine wp_region_list ?_
  refine readL (.pointer (some ⟨Ra, 0, none⟩)) rfl (by kernel_rfl) ?_
  simp only [aP, lI, l0, lS]
  have Mp := M.perm (pull0 ([(B18, row .u8 32 (yof (ylt (bl y7)))), (B15, row .u8 32 (fun _ => 0)), (B10, row .u8 32 (yof (bl y7))), (B7, row .u8 32 (fun _ => 0)), (B4, row .u8 32 (fun _ => 0))] : List (Nat × List Value)) ba2 ([] : List (Nat × List Value)))
  have key := hK.key w0 _ _ (⟨2, ylt (ylt (bl y7)), ylt (bl y7), true⟩ : Kys) ba2 _ 2 hg ⟨show (0 : Int) ≤ 2 by decide, show (2 : Int) ≤ 65535 by decide, ylt_in _, ylt_in _⟩ (by unfold i64; decide) hIa Mp
  clear Mp
  rw [show ykK (⟨2, ylt (ylt (bl y7)), ylt (bl y7), true⟩ : Kys) 2 = yof (ylt (ylt (bl y7))) from ykK_now (k := (⟨2, ylt (ylt (bl y7)), ylt (bl y7), true⟩ : Kys)) (n := 2) rfl, show ykE (⟨2, ylt (ylt (bl y7)), ylt (bl y7), true⟩ : Kys) 2 = 0 from ykE_now (k := (⟨2, ylt (ylt (bl y7)), ylt (bl y7), true⟩ : Kys)) (n := 2) rfl] at key
  refine callL rfl (fun _ => by kernel_rfl) key ?_
  clear key
  rintro e w20 ⟨rfl, l⟩
  replace M := M.call l
  clear l
  refine ⟨_, rfl, ?_⟩
  simp only [aP, lI, l0, lS]
  refine readL (.tuple #[.agg (row .u8 32 (yof (ylt (ylt (bl y7))))).toArray, .int .i64 0]) rfl (by kernel_rfl) ?_
  simp only [aP, lI, l0, lS]
  refine readL (.agg (row .u8 32 (yof (ylt (ylt (bl y7))))).toArray) rfl (by kernel_rfl) ?_
  simp only [aP, lI, l0, lS]
  refine readL (.int .i64 0) rfl (by kernel_rfl) ?_
  simp only [aP, lI, l0, lS]
  refine actL (w' := w20.alloc (.cells zu8_32 23)) (.pointer (some ⟨w20.heap.size, 0, none⟩)) rfl (by kernel_rfl) ?_
  simp only [aP, lI, l0, lS]
  replace M := M.box zu8_32 23 w20.heap.size rfl
  generalize w20.alloc (.cells zu8_32 23) = w21 at M ⊢
  generalize w20.heap.size = B21 at M ⊢
  replace M : Mm w0 ((B21, row .u8 32 (fun _ => 0)) :: (B18, row .u8 32 (yof (ylt (bl y7)))) :: (B15, row .u8 32 (fun _ => 0)) :: (B10, row .u8 32 (yof (bl y7))) :: (B7, row .u8 32 (fun _ => 0)) :: (B4, row .u8 32 (fun _ => 0)) :: (ba2 ++ ([] : List (Nat × List Value)))) w21 := M
  refine skipOpL rfl (storeP (row .u8 32 (yof (ylt (ylt (bl y7))))) B21 0 23 _ _ rfl rfl rfl (M.thereP mS 0 32 (Nat.le_of_ble_eq_true rfl)) (by kernel_rfl) (row_one .u8 32 (yof (ylt (ylt (bl y7)))))) ?_
  simp only [Act.put]
  replace M := M.setAll (row .u8 32 (yof (ylt (ylt (bl y7))))) (by first | (rw [row32, row32]; done) | (rw [row32]; rfl) | (rw [row32]; done))
  generalize w21.setCells B21 0 (row .u8 32 (yof (ylt (ylt (bl y7))))) = w22 at M  ⊢
  refine readL (.int .i64 0) rfl (by kernel_rfl) ?_
  simp only [aP, lI, l0, lS]
  first | show Exit.then _ _ _ _ _ | show Exit.inBlock _ _ _ _ _
  go_upto_region 13 with fail
  refine wp_region_list ?_
  refine readL (.int .i64 0) rfl (by kernel_rfl) ?_
  simp only [aP, lI, l0, lS]
  refine readL (.bool true) rfl (eqlI .i64 _ _ _ _ _ _ rfl rfl rfl true (by decide) _) ?_
  simp only [aP, lI, l0, lS]
  refine readL (.bool true) rfl (by kernel_rfl) ?_
  simp only [aP, lI, l0, lS]
  refine readL (.int .i64 150) rfl (by kernel_rfl) ?_
  simp only [aP, lI, l0, lS]
  refine readL (.bool true) rfl (eqlI .i64 _ _ _ _ _ _ rfl rfl rfl true (by decide) _) ?_
  simp only [aP, lI, l0, lS]
  refine readL (.bool true) rfl (by kernel_rfl) ?_
  simp only [aP, lI, l0, lS]
  refine readL (.bool true) rfl (by kernel_rfl) ?_
  simp only [aP, lI, l0, lS]
  refine readL (.int .i64 150) rfl (by kernel_rfl) ?_
  simp only [aP, lI, l0, lS]
  refine readL (.bool true) rfl (eqlI .i64 _ _ _ _ _ _ rfl rfl rfl true (by decide) _) ?_
  simp only [aP, lI, l0, lS]
  refine readL (.bool true) rfl (by kernel_rfl) ?_
  simp only [aP, lI, l0, lS]
  refine readL (.bool true) rfl (by kernel_rfl) ?_
  simp only [aP, lI, l0, lS]
  refine readL (.int .i64 0) rfl (by kernel_rfl) ?_
  simp only [aP, lI, l0, lS]
  refine readL (.bool true) rfl (eqlI .i64 _ _ _ _ _ _ rfl rfl rfl true (by decide) _) ?_
  simp only [aP, lI, l0, lS]
  refine readL (.bool true) rfl (by kernel_rfl) ?_
  simp only [aP, lI, l0, lS]
  refine readL (.bool true) rfl (by kernel_rfl) ?_
  simp only [aP, lI, l0, lS]
  refine readL (.int .i64 0) rfl (by kernel_rfl) ?_
  simp only [aP, lI, l0, lS]
  refine readL (.bool true) rfl (eqlI .i64 _ _ _ _ _ _ rfl rfl rfl true (by decide) _) ?_
  simp only [aP, lI, l0, lS]
  refine readL (.bool true) rfl (by kernel_rfl) ?_
  simp only [aP, lI, l0, lS]
  refine readL (.bool true) rfl (by kernel_rfl) ?_
  simp only [aP, lI, l0, lS]
  refine readL (.int .i64 0) rfl (by kernel_rfl) ?_
  simp only [aP, lI, l0, lS]
  refine readL (.bool true) rfl (eqlI .i64 _ _ _ _ _ _ rfl rfl rfl true (by decide) _) ?_
  simp only [aP, lI, l0, lS]
  refine readL (.bool true) rfl (by kernel_rfl) ?_
  simp only [aP, lI, l0, lS]
  refine readL (.bool true) rfl (by kernel_rfl) ?_
  simp only [aP, lI, l0, lS]
  refine readL (.int .i64 150) rfl (by kernel_rfl) ?_
  simp only [aP, lI, l0, lS]
  refine readL (.bool true) rfl (eqlI .i64 _ _ _ _ _ _ rfl rfl rfl true (by decide) _) ?_
  simp only [aP, lI, l0, lS]
  refine readL (.bool true) rfl (by kernel_rfl) ?_
  simp only [aP, lI, l0, lS]
  refine readL (.bool true) rfl (by kernel_rfl) ?_
  simp only [aP, lI, l0, lS]
  refine readL (.int .i64 0) rfl (by kernel_rfl) ?_
  simp only [aP, lI, l0, lS]
  refine readL (.bool true) rfl (eqlI .i64 _ _ _ _ _ _ rfl rfl rfl true (by decide) _) ?_
  simp only [aP, lI, l0, lS]
  refine readL (.bool true) rfl (by kernel_rfl) ?_
  simp only [aP, lI, l0, lS]
  refine readL (.bool true) rfl (by kernel_rfl) ?_
  simp only [aP, lI, l0, lS]
  refine readL (.int .i64 0) rfl (by kernel_rfl) ?_
  simp only [aP, lI, l0, lS]
  refine readL (.bool true) rfl (eqlI .i64 _ _ _ _ _ _ rfl rfl rfl true (by decide) _) ?_
  simp only [aP, lI, l0, lS]
  refine readL (.bool true) rfl (by kernel_rfl) ?_
  simp only [aP, lI, l0, lS]
  refine readL (.bool true) rfl (by kernel_rfl) ?_
  simp only [aP, lI, l0, lS]
  refine readL (.agg (row .u8 32 (yof (bl y7))).toArray) rfl (loadN 23 _ ⟨B10, 0, none⟩ (row .u8 32 (yof (bl y7))) rfl rfl (fun _ => by kernel_rfl) (fun _ => by rw [row32]; kernel_rfl) (M.part (mT _ (mT _ (mT _ mS))) 0 _ (by rw [List.drop_zero, List.take_length]))) ?_
  simp only [aP, lI, l0, lS]
  refine readL (.agg (row .u8 32 (yof (ylt (bl y7)))).toArray) rfl (loadN 23 _ ⟨B18, 0, none⟩ (row .u8 32 (yof (ylt (bl y7)))) rfl rfl (fun _ => by kernel_rfl) (fun _ => by rw [row32]; kernel_rfl) (M.part (mT _ mS) 0 _ (by rw [List.drop_zero, List.take_length]))) ?_
  simp only [aP, lI, l0, lS]
  refine readL (.bool true) rfl (neqV 32 (yof (bl y7)) (yof (ylt (bl y7))) 23 5 _ _ _ rfl rfl rfl Tryd.underlying23 Tryd.underlying5 (fun _ => by kernel_rfl) (by kernel_rfl) (yof_in _) (yof_in _) true nv1.out _) ?_
  simp only [aP, lI, l0, lS]
  refine readL (.bool true) rfl (by kernel_rfl) ?_
  simp only [aP, lI, l0, lS]
  refine readL (.bool true) rfl (by kernel_rfl) ?_
  simp only [aP, lI, l0, lS]
  refine readL (.agg (row .u8 32 (yof (ylt (bl y7)))).toArray) rfl (loadN 23 _ ⟨B18, 0, none⟩ (row .u8 32 (yof (ylt (bl y7)))) rfl rfl (fun _ => by kernel_rfl) (fun _ => by rw [row32]; kernel_rfl) (M.part (mT _ mS) 0 _ (by rw [List.drop_zero, List.take_length]))) ?_
  simp only [aP, lI, l0, lS]
  refine readL (.agg (row .u8 32 (yof (ylt (ylt (bl y7))))).toArray) rfl (loadN 23 _ ⟨B21, 0, none⟩ (row .u8 32 (yof (ylt (ylt (bl y7))))) rfl rfl (fun _ => by kernel_rfl) (fun _ => by rw [row32]; kernel_rfl) (M.part mS 0 _ (by rw [List.drop_zero, List.take_length]))) ?_
  simp only [aP, lI, l0, lS]
  refine readL (.bool true) rfl (neqV 32 (yof (ylt (bl y7))) (yof (ylt (ylt (bl y7)))) 23 5 _ _ _ rfl rfl rfl Tryd.underlying23 Tryd.underlying5 (fun _ => by kernel_rfl) (by kernel_rfl) (yof_in _) (yof_in _) true nv2.out _) ?_
  simp only [aP, lI, l0, lS]
  refine readL (.bool true) rfl (by kernel_rfl) ?_
  simp only [aP, lI, l0, lS]
  refine readL (.bool true) rfl (by kernel_rfl) ?_
  simp only [aP, lI, l0]
  first | show Exit.then _ _ _ _ _ | show Exit.inBlock _ _ _ _ _
  have hbel := M.below
  clear M
  go_wp2
  go_ret
  exact ⟨rfl, hbel⟩
theorem yon_w {k : Kys} (h : KysW k) : ∀ n, KysW (yon n k)
  | 0 => h
  | n + 1 => yad_w (yon_w h n)
theorem ynK_in (k : Kys) : In 256 32 (ynK k) := by
  unfold ynK
  split
  · exact in_zero32
  · exact yof_in _
theorem yad_e {k : Kys} {n : Int} (h : k.e = n) (hn : n < 65535) : (yad k).e = n + 1 := by
  rw [yad_on (by omega)]
  show k.e + 1 = _
  omega
theorem ynE_ok {k : Kys} {n : Int} (h : k.e = n) (hn : n < 65535) : ynE k = 0 := if_neg (by omega)
theorem ykK_in (k : Kys) (n : Int) : In 256 32 (ykK k n) := by
  unfold ykK
  split
  · exact yof_in _
  · split
    · exact yof_in _
    · exact in_zero32
theorem pullX {α : Type} (x g m t : List α) : (x ++ (g ++ (m ++ t))).Perm (m ++ (x ++ (g ++ t))) := by
  rw [← List.append_assoc x g, ← List.append_assoc x g, ← List.append_assoc, ← List.append_assoc]
  exact List.perm_append_comm.append_right t
theorem take_in {L : List Int} {P : Int → Prop} (h : ∀ x ∈ L, P x) {j : Nat} (hj : j < L.length) : P (bl L j) := h _ (by
  unfold bl
  rw [List.getD_eq_getElem?_getD, List.getElem?_eq_getElem hj]
  exact List.getElem_mem hj)
end Go.Proofs.YtckohmdmjhaknaaDoor
