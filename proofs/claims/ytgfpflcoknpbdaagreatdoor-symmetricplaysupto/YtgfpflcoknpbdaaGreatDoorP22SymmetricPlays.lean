/- Texts of Yo Yc, joined. -/
import Derived.Test.YtgfpflcoknpbdaaGreatDoorP1SymmetricPlays
import Derived.Test.YtgfpflcoknpbdaaGreatDoorP12SymmetricPlays
import Derived.Test.YtgfpflcoknpbdaaGreatDoorP13SymmetricPlays
import Derived.Test.YtgfpflcoknpbdaaGreatDoorP21SymmetricPlays
set_option maxRecDepth 20000
set_option maxHeartbeats 64000000
namespace Go.Proofs.YtgfpflcoknpbdaaGreatDoor
open Go.RowKit
theorem smix_next (s : Sym) (b : List Int) (h : s.has = true) : smix (snext s) b = smix ⟨s.h, s.c, s.k, s.has, s.n + 1⟩ b := by unfold snext; rw [if_pos h]
theorem sout_key {s : Sym} (h : s.has = true) (t : List Int) : sout s t = (List.range (t.length + 16)).map (aout s.k (snz s.n) 32 s.h t.length (bl t)) := by unfold sout; rw [if_pos h]
theorem soT_key {s : Sym} (h : s.has = true) (b : List Int) : soT s b = (List.range (aoL s.k (snz s.n) 32 s.h b.length (bl b))).map (hxor s.k 1 (snz s.n) (bl b)) := by unfold soT; rw [if_pos h]
theorem soE_key {s : Sym} (h : s.has = true) (b : List Int) : soE s b = aoE s.k (snz s.n) 32 s.h b.length (bl b) := by unfold soE; rw [if_pos h]
theorem soT_err {s : Sym} {b : List Int} (h : soE s b ≠ 0) : soT s b = [] := by
  cases hh : s.has with
  | false => exact absurd (by unfold soE; rw [hh]; rfl) h
  | true =>
    rw [soE_key hh] at h
    rw [soT_key hh]
    have : ¬ aok s.k (snz s.n) 32 s.h b.length (bl b) := fun k => h (by
      have h16 := k.1
      unfold aoE
      rw [if_neg (by omega), if_pos k])
    unfold aoL
    rw [if_neg this]
    rfl
def scz (n j i : Nat) : Int := if i < 4 then 0 else if i - 4 < j then dig n (i - 4) else 0
def scl (n j : Nat) : List Value := [.int .u8 (scz n j 0), .int .u8 (scz n j 1), .int .u8 (scz n j 2), .int .u8 (scz n j 3), .int .u8 (scz n j 4), .int .u8 (scz n j 5), .int .u8 (scz n j 6), .int .u8 (scz n j 7), .int .u8 (scz n j 8), .int .u8 (scz n j 9), .int .u8 (scz n j 10), .int .u8 (scz n j 11)]
theorem scl_set (n j : Nat) (hj : j < 8) : (scl n j).set (4 + j) (.int .u8 (dig n j)) = scl n (j + 1) := by
  have : j = 0 ∨ j = 1 ∨ j = 2 ∨ j = 3 ∨ j = 4 ∨ j = 5 ∨ j = 6 ∨ j = 7 := by omega
  rcases this with rfl | rfl | rfl | rfl | rfl | rfl | rfl | rfl <;> rfl
theorem rnonce12_any (w0 w : World) (R : Nat) (l : List (Nat × List Value)) (s : Sym) (M : Mm w0 ((R, stc s) :: l) w) :
    Calls Tryz.prog 30 #[.pointer (some ⟨R, 0, none⟩)] w fun e w' => e = .returned (.agg (row .u8 12 (snz s.n)).toArray) ∧ Below w.heap.size w w' := by
  have OF := Off.refl [] w
  have hb0 := M.below
  go_enter Tryz.func30, Tryz.ntmps30
  go_upto_region 0 with fail
  refine wp_region_list ?_
  have hz0_ := OF.size
  refine actL (w' := w.alloc (.cells zu8_12 53)) (.pointer (some ⟨w.heap.size, 0, none⟩)) rfl (by kernel_rfl) ?_
  simp only [aP, lI, l0, lS]
  have hlb := (Below.refl w.heap.size w).alloc (Nat.le_refl _) (.cells zu8_12 53)
  replace OF := OF.below hlb
  clear hlb
  have hB_B1 : w0.heap.size ≤ w.heap.size := M.below.size
  replace M := M.box zu8_12 53 w.heap.size rfl
  generalize w.alloc (.cells zu8_12 53) = w1 at M OF ⊢
  generalize eB : w.heap.size = B1 at M hB_B1  ⊢
  have hE_B1 : w.heap.size ≤ B1 := Nat.le_of_eq eB
  have hF_B1 : B1 ≤ w.heap.size := Nat.le_of_eq eB.symm
  clear eB
  replace M : Mm w0 ((B1, [.int .u8 0, .int .u8 0, .int .u8 0, .int .u8 0, .int .u8 0, .int .u8 0, .int .u8 0, .int .u8 0, .int .u8 0, .int .u8 0, .int .u8 0, .int .u8 0]) :: (R, stc s) :: l) w1 := M
  have hW_B1 : w.heap.size ≤ B1 := by omega
  clear hz0_
  first | show Exit.then _ _ _ _ _ | show Exit.inBlock _ _ _ _ _
  go_upto_region 1 with fail
  refine wp_region_list ?_
  refine readL (.agg zu8_12) rfl (by kernel_rfl) ?_
  simp only [aP, lI, l0, lS]
  have hz0_ := OF.size
  refine actL (w' := w1.alloc (.cells zu8_12 53)) (.pointer (some ⟨w1.heap.size, 0, none⟩)) rfl (by kernel_rfl) ?_
  simp only [aP, lI, l0, lS]
  have hlb := (Below.refl w1.heap.size w1).alloc (Nat.le_refl _) (.cells zu8_12 53)
  replace OF := OF.below hlb
  clear hlb
  have hB_B2 : w0.heap.size ≤ w1.heap.size := M.below.size
  replace M := M.box zu8_12 53 w1.heap.size rfl
  generalize w1.alloc (.cells zu8_12 53) = w2 at M OF ⊢
  generalize eB : w1.heap.size = B2 at M hB_B2  ⊢
  have hE_B2 : w1.heap.size ≤ B2 := Nat.le_of_eq eB
  have hF_B2 : B2 ≤ w1.heap.size := Nat.le_of_eq eB.symm
  clear eB
  replace M : Mm w0 ((B2, [.int .u8 0, .int .u8 0, .int .u8 0, .int .u8 0, .int .u8 0, .int .u8 0, .int .u8 0, .int .u8 0, .int .u8 0, .int .u8 0, .int .u8 0, .int .u8 0]) :: (B1, [.int .u8 0, .int .u8 0, .int .u8 0, .int .u8 0, .int .u8 0, .int .u8 0, .int .u8 0, .int .u8 0, .int .u8 0, .int .u8 0, .int .u8 0, .int .u8 0]) :: (R, stc s) :: l) w2 := M
  have hW_B2 : w.heap.size ≤ B2 := by omega
  clear hz0_
  refine skipOpL rfl (storeP [.int .u8 0, .int .u8 0, .int .u8 0, .int .u8 0, .int .u8 0, .int .u8 0, .int .u8 0, .int .u8 0, .int .u8 0, .int .u8 0, .int .u8 0, .int .u8 0] B2 0 53 _ _ rfl rfl rfl (M.thereP mS 0 12 (Nat.le_of_ble_eq_true rfl)) (by kernel_rfl) (List.all_eq_true.1 (rfl : ([.int .u8 0, .int .u8 0, .int .u8 0, .int .u8 0, .int .u8 0, .int .u8 0, .int .u8 0, .int .u8 0, .int .u8 0, .int .u8 0, .int .u8 0, .int .u8 0] : List Value).all (fun u => u.oneCell') = true))) ?_
  simp only [Act.put]
  replace M := M.setPart [.int .u8 0, .int .u8 0, .int .u8 0, .int .u8 0, .int .u8 0, .int .u8 0, .int .u8 0, .int .u8 0, .int .u8 0, .int .u8 0, .int .u8 0, .int .u8 0] 0 (Nat.le_of_ble_eq_true rfl)
  replace OF := OF.and1 ((Off.refl [B2] _).setAll (b := B2) mS 0 [.int .u8 0, .int .u8 0, .int .u8 0, .int .u8 0, .int .u8 0, .int .u8 0, .int .u8 0, .int .u8 0, .int .u8 0, .int .u8 0, .int .u8 0, .int .u8 0]) (.inr (by omega))
  generalize w2.setCells B2 0 [.int .u8 0, .int .u8 0, .int .u8 0, .int .u8 0, .int .u8 0, .int .u8 0, .int .u8 0, .int .u8 0, .int .u8 0, .int .u8 0, .int .u8 0, .int .u8 0] = w3 at M OF ⊢
  replace M : Mm w0 ((B2, [.int .u8 0, .int .u8 0, .int .u8 0, .int .u8 0, .int .u8 0, .int .u8 0, .int .u8 0, .int .u8 0, .int .u8 0, .int .u8 0, .int .u8 0, .int .u8 0]) :: (B1, [.int .u8 0, .int .u8 0, .int .u8 0, .int .u8 0, .int .u8 0, .int .u8 0, .int .u8 0, .int .u8 0, .int .u8 0, .int .u8 0, .int .u8 0, .int .u8 0]) :: (R, stc s) :: l) w3 := M
  first | show Exit.then _ _ _ _ _ | show Exit.inBlock _ _ _ _ _
  go_upto_region 2 with fail
  refine wp_region_list ?_
  refine readL (.int .i64 0) rfl (by kernel_rfl) ?_
  simp only [aP, lI, l0, lS]
  first | show Exit.then _ _ _ _ _ | show Exit.inBlock _ _ _ _ _
  have HI := show Hid _ from (And.intro (show Mm w0 ((B2, scl s.n 0) :: (B1, [.int .u8 0, .int .u8 0, .int .u8 0, .int .u8 0, .int .u8 0, .int .u8 0, .int .u8 0, .int .u8 0, .int .u8 0, .int .u8 0, .int .u8 0, .int .u8 0]) :: (R, stc s) :: l) w3 from M) OF)
  clear M OF
  go_wp2
  go_loopw [4] (fun i w' => ∃ j : Nat, j ≤ 8 ∧ i = .int .i64 (j : Int) ∧ Mm w0 ((B2, scl s.n j) :: (B1, [.int .u8 0, .int .u8 0, .int .u8 0, .int .u8 0, .int .u8 0, .int .u8 0, .int .u8 0, .int .u8 0, .int .u8 0, .int .u8 0, .int .u8 0, .int .u8 0]) :: (R, stc s) :: l) w' ∧ Off [] w w') (fun i _ => 8 - (intOf i).toNat)
  case atStart => exact ⟨0, Nat.zero_le _, rfl, HI.out⟩
  case round =>
    clear HI
    obtain ⟨j, hj, rfl, M, OF⟩ := hrel
    by_cases hlt : j < 8
    · go_upto_region 3 with fail
      refine wp_region_list ?_
      refine readL (.int .i64 (j : Int)) rfl (by kernel_rfl) ?_
      simp only [aP, lI, l0, lS]
      refine readL (.bool true) rfl (lssI .i64 _ _ _ _ _ _ rfl rfl rfl true (decide_eq_true (by omega)) _) ?_
      simp only [aP, lI, l0, lS]
      first | show Exit.then _ _ _ _ _ | show Exit.inBlock _ _ _ _ _
      go_upto_region 5 with fail
      refine wp_region_list ?_
      refine readL (.int .i64 (j : Int)) rfl (by kernel_rfl) ?_
      simp only [aP, lI, l0, lS]
      refine readL (.int .i64 ((4 + j : Nat) : Int)) rfl (addI .i64 _ _ _ _ _ _ _ rfl rfl rfl (by rw [IntKind.wrap_i64]; omega) _) ?_
      simp only [aP, lI, l0, lS]
      refine readL (.pointer (some ⟨R, 0, none⟩)) rfl (by kernel_rfl) ?_
      simp only [aP, lI, l0, lS]
      refine readL (.pointer (some ⟨R, 0, none⟩)) rfl (by kernel_rfl) ?_
      simp only [aP, lI, l0, lS]
      refine readL (.pointer (some ⟨R, 97, none⟩)) rfl (by kernel_rfl) ?_
      simp only [aP, lI, l0, lS]
      refine readL (.int .i64 ((s.n : Nat) : Int)) rfl (load1 3 _ ⟨R, 97, none⟩ _ rfl rfl (fun _ => by kernel_rfl) (M.get (mT _ (mT _ mS)) 97 _ (stc_rest s 1))) ?_
      simp only [aP, lI, l0, lS]
      refine readL (.int .i64 (j : Int)) rfl (by kernel_rfl) ?_
      simp only [aP, lI, l0, lS]
      refine readL (.int .i64 ((8 * j : Nat) : Int)) rfl (mulI .i64 _ _ _ _ _ _ _ rfl rfl rfl (by rw [IntKind.wrap_i64]; omega) _) ?_
      simp only [aP, lI, l0, lS]
      refine readL (.int .i64 ((s.n / 256 ^ j : Nat) : Int)) rfl (shrI .i64 .i64 _ _ _ _ _ _ _ rfl rfl rfl (by omega) (dig_shr s.n j (by omega)) _) ?_
      simp only [aP, lI, l0, lS]
      refine readL (.int .u8 (dig s.n j)) rfl (convI .i64 .u8 _ _ _ _ _ rfl (by kernel_rfl) Tryz.underlying5 (by kernel_rfl) rfl (by rw [IntKind.wrap_u8]; unfold dig; omega) _) ?_
      simp only [aP, lI, l0, lS]
      refine readL (.pointer (some ⟨B2, 0 + (4 + j), none⟩)) rfl (idxArr 53 5 12 .i64 B2 0 (4 + j) _ _ Tryz.underlying53 (fun _ => by kernel_rfl) (by omega) rfl rfl rfl _) ?_
      simp only [aP, lI, l0, lS]
      have hj12 : 4 + j < (scl s.n j).length := by show 4 + j < 12; omega
      rw [Nat.zero_add]
      refine skipOpL rfl (storeAny (.int .u8 (dig s.n j)) B2 (4 + j) 5 _ _ rfl rfl rfl rfl rfl (M.isSome mS (4 + j) hj12) (M.free mS (4 + j) hj12) (by kernel_rfl)) ?_
      simp only [Act.put]
      replace M := M.set (4 + j) hj12 (.int .u8 (dig s.n j))
      rw [scl_set s.n j hlt] at M
      replace OF := OF.and1 ((Off.refl [B2] _).set (b := B2) mS (4 + j) (.int .u8 (dig s.n j))) (.inr (by omega))
      clear hj12
      generalize wr.setCell ⟨B2, 4 + j, none⟩ (.int .u8 (dig s.n j)) = w4 at M OF ⊢
      first | show Exit.then _ _ _ _ _ | show Exit.inBlock _ _ _ _ _
      have HS := show Hid _ from (And.intro M OF)
      clear M OF
      go_wp2
      go_roundw
      case rel => first | exact ⟨j + 1, by omega, by go_num, HS.out⟩ | ((repeat apply Exists.intro); refine ⟨⟨j + 1, by omega, ?_, HS.out⟩, rfl⟩ <;> first | rfl | go_num)
      case measure => simp [intOf]; omega
    · obtain rfl : j = 8 := by omega
      go_upto_region 3 with fail
      refine wp_region_list ?_
      refine readL (.int .i64 ((8 : Nat) : Int)) rfl (by kernel_rfl) ?_
      simp only [aP, lI, l0, lS]
      refine readL (.bool false) rfl (lssI .i64 _ _ _ _ _ _ rfl rfl rfl false (by decide) _) ?_
      simp only [aP, lI, l0, lS]
      first | show Exit.then _ _ _ _ _ | show Exit.inBlock _ _ _ _ _
      replace M : Mm w0 ((B2, [.int .u8 (scz s.n 8 0), .int .u8 (scz s.n 8 1), .int .u8 (scz s.n 8 2), .int .u8 (scz s.n 8 3), .int .u8 (scz s.n 8 4), .int .u8 (scz s.n 8 5), .int .u8 (scz s.n 8 6), .int .u8 (scz s.n 8 7), .int .u8 (scz s.n 8 8), .int .u8 (scz s.n 8 9), .int .u8 (scz s.n 8 10), .int .u8 (scz s.n 8 11)]) :: (B1, [.int .u8 0, .int .u8 0, .int .u8 0, .int .u8 0, .int .u8 0, .int .u8 0, .int .u8 0, .int .u8 0, .int .u8 0, .int .u8 0, .int .u8 0, .int .u8 0]) :: (R, stc s) :: l) wr := M
      go_upto_region 6 with fail
      refine wp_region_list ?_
      refine readL (.agg #[.int .u8 (scz s.n 8 0), .int .u8 (scz s.n 8 1), .int .u8 (scz s.n 8 2), .int .u8 (scz s.n 8 3), .int .u8 (scz s.n 8 4), .int .u8 (scz s.n 8 5), .int .u8 (scz s.n 8 6), .int .u8 (scz s.n 8 7), .int .u8 (scz s.n 8 8), .int .u8 (scz s.n 8 9), .int .u8 (scz s.n 8 10), .int .u8 (scz s.n 8 11)]) rfl (loadN 53 _ ⟨B2, 0, none⟩ [.int .u8 (scz s.n 8 0), .int .u8 (scz s.n 8 1), .int .u8 (scz s.n 8 2), .int .u8 (scz s.n 8 3), .int .u8 (scz s.n 8 4), .int .u8 (scz s.n 8 5), .int .u8 (scz s.n 8 6), .int .u8 (scz s.n 8 7), .int .u8 (scz s.n 8 8), .int .u8 (scz s.n 8 9), .int .u8 (scz s.n 8 10), .int .u8 (scz s.n 8 11)] rfl rfl (fun _ => by kernel_rfl) (fun _ => by kernel_rfl) (M.rangeAt mS)) ?_
      simp only [aP, lI, l0, lS]
      replace M := M.swap
      refine skipOpL rfl (storeP [.int .u8 (scz s.n 8 0), .int .u8 (scz s.n 8 1), .int .u8 (scz s.n 8 2), .int .u8 (scz s.n 8 3), .int .u8 (scz s.n 8 4), .int .u8 (scz s.n 8 5), .int .u8 (scz s.n 8 6), .int .u8 (scz s.n 8 7), .int .u8 (scz s.n 8 8), .int .u8 (scz s.n 8 9), .int .u8 (scz s.n 8 10), .int .u8 (scz s.n 8 11)] B1 0 53 _ _ rfl rfl rfl (M.thereP mS 0 12 (Nat.le_of_ble_eq_true rfl)) (by kernel_rfl) (List.all_eq_true.1 (rfl : ([.int .u8 (scz s.n 8 0), .int .u8 (scz s.n 8 1), .int .u8 (scz s.n 8 2), .int .u8 (scz s.n 8 3), .int .u8 (scz s.n 8 4), .int .u8 (scz s.n 8 5), .int .u8 (scz s.n 8 6), .int .u8 (scz s.n 8 7), .int .u8 (scz s.n 8 8), .int .u8 (scz s.n 8 9), .int .u8 (scz s.n 8 10), .int .u8 (scz s.n 8 11)] : List Value).all (fun u => u.oneCell') = true))) ?_
      simp only [Act.put]
      replace M := M.setPart [.int .u8 (scz s.n 8 0), .int .u8 (scz s.n 8 1), .int .u8 (scz s.n 8 2), .int .u8 (scz s.n 8 3), .int .u8 (scz s.n 8 4), .int .u8 (scz s.n 8 5), .int .u8 (scz s.n 8 6), .int .u8 (scz s.n 8 7), .int .u8 (scz s.n 8 8), .int .u8 (scz s.n 8 9), .int .u8 (scz s.n 8 10), .int .u8 (scz s.n 8 11)] 0 (Nat.le_of_ble_eq_true rfl)
      replace OF := OF.and1 ((Off.refl [B1] _).setAll (b := B1) mS 0 [.int .u8 (scz s.n 8 0), .int .u8 (scz s.n 8 1), .int .u8 (scz s.n 8 2), .int .u8 (scz s.n 8 3), .int .u8 (scz s.n 8 4), .int .u8 (scz s.n 8 5), .int .u8 (scz s.n 8 6), .int .u8 (scz s.n 8 7), .int .u8 (scz s.n 8 8), .int .u8 (scz s.n 8 9), .int .u8 (scz s.n 8 10), .int .u8 (scz s.n 8 11)]) (.inr (by omega))
      generalize wr.setCells B1 0 [.int .u8 (scz s.n 8 0), .int .u8 (scz s.n 8 1), .int .u8 (scz s.n 8 2), .int .u8 (scz s.n 8 3), .int .u8 (scz s.n 8 4), .int .u8 (scz s.n 8 5), .int .u8 (scz s.n 8 6), .int .u8 (scz s.n 8 7), .int .u8 (scz s.n 8 8), .int .u8 (scz s.n 8 9), .int .u8 (scz s.n 8 10), .int .u8 (scz s.n 8 11)] = w5 at M OF ⊢
      replace M : Mm w0 ((B1, [.int .u8 (scz s.n 8 0), .int .u8 (scz s.n 8 1), .int .u8 (scz s.n 8 2), .int .u8 (scz s.n 8 3), .int .u8 (scz s.n 8 4), .int .u8 (scz s.n 8 5), .int .u8 (scz s.n 8 6), .int .u8 (scz s.n 8 7), .int .u8 (scz s.n 8 8), .int .u8 (scz s.n 8 9), .int .u8 (scz s.n 8 10), .int .u8 (scz s.n 8 11)]) :: (B2, [.int .u8 (scz s.n 8 0), .int .u8 (scz s.n 8 1), .int .u8 (scz s.n 8 2), .int .u8 (scz s.n 8 3), .int .u8 (scz s.n 8 4), .int .u8 (scz s.n 8 5), .int .u8 (scz s.n 8 6), .int .u8 (scz s.n 8 7), .int .u8 (scz s.n 8 8), .int .u8 (scz s.n 8 9), .int .u8 (scz s.n 8 10), .int .u8 (scz s.n 8 11)]) :: (R, stc s) :: l) w5 := M
      first | show Exit.then _ _ _ _ _ | show Exit.inBlock _ _ _ _ _
      have c1_ := M.part mS 0 (row .u8 12 (snz s.n)) rfl
      have hbel : Below w.heap.size w w5 := ⟨M.below.os.trans hb0.os.symm, M.below.tape.trans hb0.tape.symm, M.below.output.trans hb0.output.symm, OF.size, fun b hb => OF.blk b hb (fun h => by cases h)⟩
      clear M OF
      go_wp2
      refine bodyPost_ret (v := .agg (row .u8 12 (snz s.n)).toArray) (retCell 2 53 ⟨B1, 0, none⟩ (row .u8 12 (snz s.n)) rfl rfl (fun _ => by kernel_rfl) (fun _ => by kernel_rfl) c1_) rfl ?_
      exact ⟨rfl, hbel⟩
theorem Own.toL {w : World} {base n : Nat} {f : Nat → Int} {v : Value} (h : Own w base 5 .u8 n f v) : OwnL w base ((List.range n).map f) v := by
  unfold OwnL
  rw [List.length_map, List.length_range]
  exact h.congr fun j hj => (bl_range n f j hj).symm
theorem rseal12_any (w0 w : World) (R : Nat) (l : List (Nat × List Value)) (s : Sym) (hsw : SymW s) (hn : s.n < 4611686018427387904) (sp : Option Addr) (cap : Nat) (b : List Int) (hlen : b.length ≤ 35184372088832) (hnil : sp = none → cap = 0) (hb : Byts b) (M : Mm w0 ((R, stc s) :: l) w) (hs : SrcA [R] w sp b.length (bl b)) :
    Calls Tryz.prog 13 #[.pointer (some ⟨R, 0, none⟩), .slice sp b.length cap] w fun e w' => (∃ v, e = .returned v ∧ OwnL w' w.heap.size (sout s b) v) ∧ Mm w0 ((R, stc (sseal s b)) :: l) w' ∧ Off [R] w w' := by
  have hRw := M.lt mS
  have hR0 := M.below.size
  have hwz := Nat.le_refl w.heap.size
  have hML0 : ∀ p ∈ l, p.1 < w.heap.size := fun p hp => (M.rows p (mT _ hp)).2.2
  have OF := Off.refl [R] w
  go_enter Tryz.func13, Tryz.ntmps13
  have hML : ∀ p ∈ (R, stc s) :: l, p.1 < w.heap.size := fun p hp => by rcases List.mem_cons.1 hp with rfl | hp; exact hRw; exact hML0 p hp
  go_upto_region 0 with fail
  refine wp_region_list ?_
  refine readL (.slice none 0 0) rfl (by kernel_rfl) ?_
  simp only [aP, lI, l0, lS]
  first | show Exit.then _ _ _ _ _ | show Exit.inBlock _ _ _ _ _
  go_upto_region 1 with fail
  refine wp_region_list ?_
  refine actL (w' := w.alloc (.cells #[] 5)) (.slice (some ⟨w.heap.size, 0, none⟩) 0 0) rfl (by kernel_rfl) ?_
  simp only [aP, lI, l0, lS]
  have O_1 : Own (w.alloc (.cells #[] 5)) w.heap.size 5 .u8 0 (fun _ => 0) (.slice (some ⟨w.heap.size, 0, none⟩) 0 0) := Own.lit w w.heap.size 5 .u8 0 (fun _ => 0) hwz (by unfold maxLen; omega)
  have hlb := (Below.refl w.heap.size w).alloc (Nat.le_refl _) (.cells #[] 5)
  replace hwz := Nat.le_trans hwz hlb.size
  replace M := M.call hlb
  replace OF := OF.below hlb
  clear hlb
  generalize w.alloc (.cells #[] 5) = w1 at M O_1 hwz OF ⊢
  generalize (some ⟨w.heap.size, 0, none⟩ : Option Addr) = p1 at O_1 ⊢
  refine readL (.slice sp b.length cap) rfl (by kernel_rfl) ?_
  simp only [aP, lI, l0, lS]
  obtain ⟨v, w2, hr, O_2, hgr, _⟩ := run_append_Own (P := Tryz.prog) (ty := 28) Tryz.underlying28 one8 O_1 sp b.length cap (bl b) (hs.off OF).1 hnil (by unfold maxLen; omega) (by omega) hwz
  replace M := M.grown hgr w.heap.size hML (by omega) hwz (fun b hb => (World.ownsRow.lt O_1 b hb).1)
  replace OF := OF.grown hgr (fun b hb => .inr (World.ownsRow.lt O_1 b hb).1)
  replace hwz := Nat.le_trans hwz hgr.size
  refine actL v rfl (appendOp _ _ 28 _ _ _ rfl rfl rfl hr) ?_
  simp only [aP, lI, l0, lS]
  clear hr hgr O_1
  obtain ⟨p2, c2, rfl, _, _⟩ := O_2.bytes
  refine readL (.slice p2 (0 + b.length) c2) rfl (by kernel_rfl) ?_
  simp only [aP, lI, l0, lS]
  first | show Exit.then _ _ _ _ _ | show Exit.inBlock _ _ _ _ _
  cases hhas : s.has with
  | true =>
    go_upto_region 2 with fail
    refine wp_region_list ?_
    refine readL (.pointer (some ⟨R, 0, none⟩)) rfl (by kernel_rfl) ?_
    simp only [aP, lI, l0, lS]
    refine readL (.pointer (some ⟨R, 0, none⟩)) rfl (by kernel_rfl) ?_
    simp only [aP, lI, l0, lS]
    refine readL (.pointer (some ⟨R, 96, none⟩)) rfl (by kernel_rfl) ?_
    simp only [aP, lI, l0, lS]
    refine readL (.bool true) rfl (load1 4 _ ⟨R, 96, none⟩ _ rfl rfl (fun _ => by kernel_rfl) (by rw [← hhas]; exact M.get mS 96 _ (stc_rest s 0))) ?_
    simp only [aP, lI, l0, lS]
    first | show Exit.then _ _ _ _ _ | show Exit.inBlock _ _ _ _ _
    go_upto_region 3 with fail
    refine wp_region_held_drew (S := fun w' => Mm w0 ((R, stc s) :: l) w') (by kernel_rfl) M.drew ?_
    clear M
    intro M
    have hdr := (Below.refl w2.heap.size w2).drew
    replace OF := OF.below hdr
    replace O_2 := O_2.below hdr
    replace hwz := Nat.le_trans hwz hdr.size
    clear hdr
    generalize w2.drew = w3 at M hwz OF O_2 ⊢
    refine readHg (i := 0) (some 13) rfl (.pointer (some ⟨R, 0, none⟩)) rfl rfl (fun _ M => (by kernel_rfl)) M ?_
    simp only [aP, lI, l0, lS]
    refine readHg (i := 1) (some 14) rfl (.pointer (some ⟨R, 0, none⟩)) rfl rfl (fun _ M => (by kernel_rfl)) M ?_
    simp only [aP, lI, l0, lS]
    refine readHg (i := 2) (some 15) rfl (.pointer (some ⟨R, 64, none⟩)) rfl rfl (fun _ M => (by kernel_rfl)) M ?_
    simp only [aP, lI, l0, lS]
    refine readHg (i := 3) (some 16) rfl (.agg (row .u8 32 s.k).toArray) rfl rfl (fun _ M => loadN 38 _ ⟨R, 64, none⟩ (row .u8 32 s.k) rfl rfl (fun _ => by kernel_rfl) (fun _ => by rw [row32]; kernel_rfl) (M.part mS 64 _ (stc_k s))) M ?_
    simp only [aP, lI, l0, lS]
    refine readHg (i := 4) (some 17) rfl (.pointer (some ⟨R, 0, none⟩)) rfl rfl (fun _ M => (by kernel_rfl)) M ?_
    simp only [aP, lI, l0, lS]
    refine readHg (i := 6) (some 19) rfl (.pointer (some ⟨R, 0, none⟩)) rfl rfl (fun _ M => (by kernel_rfl)) M ?_
    simp only [aP, lI, l0, lS]
    refine readHg (i := 7) (some 20) rfl (.pointer (some ⟨R, 0, none⟩)) rfl rfl (fun _ M => (by kernel_rfl)) M ?_
    simp only [aP, lI, l0, lS]
    refine readHg (i := 8) (some 21) rfl (.pointer (some ⟨R, 0, none⟩)) rfl rfl (fun _ M => (by kernel_rfl)) M ?_
    simp only [aP, lI, l0, lS]
    refine readHg (i := 9) (some 22) rfl (.slice (some ⟨R, 0, none⟩) 32 32) rfl rfl (fun _ M => cutAll 38 _ _ _ rfl rfl (by kernel_rfl)) M ?_
    simp only [aP, lI, l0, lS]
    refine readHg (i := 10) (some 23) rfl (.slice sp b.length cap) rfl rfl (fun _ M => (by kernel_rfl)) M ?_
    simp only [aP, lI, l0, lS]
    have hC : Calls Tryz.prog 30 #[.pointer (some ⟨R, 0, none⟩)] w3 (fun e w' => e = .returned (.agg (row .u8 12 (snz s.n)).toArray) ∧ Below w3.heap.size w3 w') := rnonce12_any w0 _ R _ s M
    refine callH (i := 5) (some 18) rfl (by kernel_rfl) rfl rfl (fun _ => by kernel_rfl) (hC) ?_
    rintro e w4 ⟨rfl, l⟩
    replace M := M.call l
    refine ⟨_, rfl, M, ?_⟩
    replace OF := OF.below l
    replace O_2 := O_2.below l
    replace hwz := Nat.le_trans hwz l.size
    clear l hC
    simp only [aP, lI, l0, lS]
    refine callH (i := 11) (some 24) rfl (by kernel_rfl) rfl rfl (fun _ => by kernel_rfl) (refSeal_any s.k (snz s.n) hsw.k (snz_in s.n) (some ⟨R, 0, none⟩) 32 32 (by decide) (fun e => by cases e) s.h hsw.h sp b.length cap (by omega) (bl b) hb.bl _ (M.srcRow mS 0 32 _ (stc_h s)) (hs.off OF).1) ?_
    rintro e w5 ⟨sp', cap', rfl, O_s, l1⟩
    replace M := M.call l1
    replace OF := OF.below l1
    have O_5 : OwnL w5 w.heap.size (sout s b) (.slice sp' (b.length + 16) cap') := by rw [sout_key hhas]; exact Own.toL (Own.lower O_s hwz)
    replace hwz := Nat.le_trans hwz l1.size
    clear l1 O_s O_2
    refine ⟨_, rfl, M, ?_⟩
    simp only [aP, lI, l0, lS]
    refine readHg (i := 12) (some 5) rfl (.slice sp' (b.length + 16) cap') rfl rfl (fun _ M => (by kernel_rfl)) M ?_
    simp only [aP, lI, l0, lS]
    refine wpAnyH_done (by kernel_rfl) ?_ _
    first | show Exit.then _ _ _ _ _ | show Exit.inBlock _ _ _ _ _
    go_upto_region 4 with fail
    refine wp_region_list ?_
    refine readL (.pointer (some ⟨R, 0, none⟩)) rfl (by kernel_rfl) ?_
    simp only [aP, lI, l0, lS]
    refine readL (.pointer (some ⟨R, 0, none⟩)) rfl (by kernel_rfl) ?_
    simp only [aP, lI, l0, lS]
    refine readL (.pointer (some ⟨R, 97, none⟩)) rfl (by kernel_rfl) ?_
    simp only [aP, lI, l0, lS]
    refine readL (.int .i64 ((s.n : Nat) : Int)) rfl (load1 3 _ ⟨R, 97, none⟩ _ rfl rfl (fun _ => by kernel_rfl) (M.get mS 97 _ (stc_rest s 1))) ?_
    simp only [aP, lI, l0, lS]
    refine readL (.int .i64 ((s.n + 1 : Nat) : Int)) rfl (addI .i64 _ _ _ _ _ _ _ rfl rfl rfl (by rw [IntKind.wrap_i64]; omega) _) ?_
    simp only [aP, lI, l0, lS]
    refine readL (.pointer (some ⟨R, 0, none⟩)) rfl (by kernel_rfl) ?_
    simp only [aP, lI, l0, lS]
    refine readL (.pointer (some ⟨R, 97, none⟩)) rfl (by kernel_rfl) ?_
    simp only [aP, lI, l0, lS]
    refine skipOpL rfl (storeAny (.int .i64 ((s.n + 1 : Nat) : Int)) R 97 3 _ _ rfl rfl rfl rfl rfl (M.isSome mS 97 (by rw [stc_len]; decide)) (M.free mS 97 (by rw [stc_len]; decide)) (by kernel_rfl)) ?_
    simp only [Act.put]
    replace M := M.set 97 (by rw [stc_len]; decide) (.int .i64 ((s.n + 1 : Nat) : Int))
    rw [show (.int .i64 ((s.n + 1 : Nat) : Int) : Value) = .int .i64 ((s.n + 1 : Nat) : Int) from rfl, stc_set97] at M
    replace OF := OF.and1 ((Off.refl [R] _).set (b := R) mS 97 (.int .i64 ((s.n + 1 : Nat) : Int))) (.inl mS)
    replace O_5 := Own.off1 O_5 ((Off.refl [R] _).set (b := R) mS 97 (.int .i64 ((s.n + 1 : Nat) : Int))) (by omega)
    generalize w5.setCell ⟨R, 97, none⟩ (.int .i64 ((s.n + 1 : Nat) : Int)) = w6 at M OF O_5 ⊢
    replace M : Mm w0 ((R, stc (⟨s.h, s.c, s.k, s.has, s.n + 1⟩ : Sym)) :: l) w6 := M
    first | show Exit.then _ _ _ _ _ | show Exit.inBlock _ _ _ _ _
    have hol : b.length + 16 = (sout s b).length := by rw [sout_length, if_pos hhas]
    rw [hol] at O_5 ⊢
    clear hol
    go_upto_region 5 with fail
    refine wp_region_list ?_
    refine readL (.pointer (some ⟨R, 0, none⟩)) rfl (by kernel_rfl) ?_
    simp only [aP, lI, l0, lS]
    refine readL (.slice sp' ((sout s b).length) cap') rfl (by kernel_rfl) ?_
    simp only [aP, lI, l0, lS]
    refine callL rfl (fun _ => by kernel_rfl) (rmix_any w0 _ R _ (⟨s.h, s.c, s.k, s.has, s.n + 1⟩ : Sym) hsw.h sp' cap' (sout s b) (by rw [sout_length, if_pos hhas]; omega) O_5.nilCap (sout_byts hb) M (SrcA.of_own O_5 (fun y hy => by obtain rfl := List.mem_singleton.1 hy; exact hRw))) ?_
    rintro e w7 ⟨rfl, M', o1⟩
    clear M
    have M := M'
    clear M'
    replace OF := OF.trans o1
    replace O_5 := Own.off1 O_5 o1 (by omega)
    clear o1
    refine ⟨_, rfl, ?_⟩
    simp only [aP, lI, l0, lS]
    first | show Exit.then _ _ _ _ _ | show Exit.inBlock _ _ _ _ _
    go_upto_region 6 with fail
    refine wp_region_list ?_
    refine readL (.slice sp' ((sout s b).length) cap') rfl (by kernel_rfl) ?_
    simp only [aP, lI, l0, lS]
    refine readL (.slice sp' ((sout s b).length) cap') rfl (by kernel_rfl) ?_
    simp only [aP, lI, l0, lS]
    first | show Exit.then _ _ _ _ _ | show Exit.inBlock _ _ _ _ _
    rw [← smix_next s (sout s b) hhas] at M
    have HS := show Hid _ from (And.intro O_5 (And.intro M OF))
    clear O_5 M OF
    go_wp2
    go_ret
    exact ⟨⟨_, rfl, HS.out.1⟩, HS.out.2⟩
  | false =>
    go_upto_region 2 with fail
    refine wp_region_list ?_
    refine readL (.pointer (some ⟨R, 0, none⟩)) rfl (by kernel_rfl) ?_
    simp only [aP, lI, l0, lS]
    refine readL (.pointer (some ⟨R, 0, none⟩)) rfl (by kernel_rfl) ?_
    simp only [aP, lI, l0, lS]
    refine readL (.pointer (some ⟨R, 96, none⟩)) rfl (by kernel_rfl) ?_
    simp only [aP, lI, l0, lS]
    refine readL (.bool false) rfl (load1 4 _ ⟨R, 96, none⟩ _ rfl rfl (fun _ => by kernel_rfl) (by rw [← hhas]; exact M.get mS 96 _ (stc_rest s 0))) ?_
    simp only [aP, lI, l0, lS]
    first | show Exit.then _ _ _ _ _ | show Exit.inBlock _ _ _ _ _
    have hso : sout s b = b := by unfold sout; rw [hhas]; rfl
    have hsn : snext s = s := by unfold snext; rw [hhas]; rfl
    have e0 : Own w2 w.heap.size 5 .u8 (0 + b.length) (bl b) (.slice p2 (0 + b.length) c2) := Own.congr O_2 fun j _ => by unfold app; rw [if_neg (by omega), Nat.sub_zero]
    clear O_2
    have O_2 : OwnL w2 w.heap.size b (.slice p2 (0 + b.length) c2) := by unfold OwnL; rw [Nat.zero_add] at e0 ⊢; exact e0
    clear e0
    rw [show 0 + b.length = b.length by omega] at O_2 ⊢
    go_upto_region 5 with fail
    refine wp_region_list ?_
    refine readL (.pointer (some ⟨R, 0, none⟩)) rfl (by kernel_rfl) ?_
    simp only [aP, lI, l0, lS]
    refine readL (.slice p2 b.length c2) rfl (by kernel_rfl) ?_
    simp only [aP, lI, l0, lS]
    refine callL rfl (fun _ => by kernel_rfl) (rmix_any w0 _ R _ s hsw.h p2 c2 b (by omega) O_2.nilCap hb M (SrcA.of_own O_2 (fun y hy => by obtain rfl := List.mem_singleton.1 hy; exact hRw))) ?_
    rintro e w8 ⟨rfl, M', o1⟩
    clear M
    have M := M'
    clear M'
    replace OF := OF.trans o1
    replace O_2 := Own.off1 O_2 o1 (by omega)
    clear o1
    refine ⟨_, rfl, ?_⟩
    simp only [aP, lI, l0, lS]
    first | show Exit.then _ _ _ _ _ | show Exit.inBlock _ _ _ _ _
    go_upto_region 6 with fail
    refine wp_region_list ?_
    refine readL (.slice p2 b.length c2) rfl (by kernel_rfl) ?_
    simp only [aP, lI, l0, lS]
    refine readL (.slice p2 b.length c2) rfl (by kernel_rfl) ?_
    simp only [aP, lI, l0, lS]
    first | show Exit.then _ _ _ _ _ | show Exit.inBlock _ _ _ _ _
    have hss : sseal s b = smix s b := by unfold sseal; rw [hso, hsn]
    have HS := show Hid _ from (And.intro O_2 (And.intro M OF))
    clear O_2 M OF
    go_wp2
    go_ret
    exact ⟨⟨_, rfl, by rw [hso]; exact HS.out.1⟩, by rw [hss]; exact HS.out.2.1, HS.out.2.2⟩
theorem ropen12_any (w0 w : World) (R : Nat) (l : List (Nat × List Value)) (s : Sym) (hsw : SymW s) (hn : s.n < 4611686018427387904) (sp : Option Addr) (cap : Nat) (b : List Int) (hlen : b.length ≤ 35184372088832) (hnil : sp = none → cap = 0) (hb : Byts b) (hcap : b.length ≤ cap) (M : Mm w0 ((R, stc s) :: l) w) (hs : SrcA [R] w sp b.length (bl b)) :
    Calls Tryz.prog 16 #[.pointer (some ⟨R, 0, none⟩), .slice sp b.length cap] w fun e w' => (∃ v, e = .returned (.tuple #[v, .int .i64 (soE s b)]) ∧ OwnL w' w.heap.size (soT s b) v) ∧ Mm w0 ((R, stc (sopen s b)) :: l) w' ∧ Off [R] w w' := by
  have hRw := M.lt mS
  have hR0 := M.below.size
  have hwz := Nat.le_refl w.heap.size
  have hML0 : ∀ p ∈ l, p.1 < w.heap.size := fun p hp => (M.rows p (mT _ hp)).2.2
  have OF := Off.refl [R] w
  go_enter Tryz.func16, Tryz.ntmps16
  have hML : ∀ p ∈ (R, stc s) :: l, p.1 < w.heap.size := fun p hp => by rcases List.mem_cons.1 hp with rfl | hp; exact hRw; exact hML0 p hp
  go_upto_region 0 with fail
  refine wp_region_list ?_
  refine readL (.slice none 0 0) rfl (by kernel_rfl) ?_
  simp only [aP, lI, l0, lS]
  refine readL (.int .i64 0) rfl (by kernel_rfl) ?_
  simp only [aP, lI, l0, lS]
  first | show Exit.then _ _ _ _ _ | show Exit.inBlock _ _ _ _ _
  go_upto_region 1 with fail
  refine wp_region_list ?_
  refine actL (w' := w.alloc (.cells #[] 5)) (.slice (some ⟨w.heap.size, 0, none⟩) 0 0) rfl (by kernel_rfl) ?_
  simp only [aP, lI, l0, lS]
  have O_1 : Own (w.alloc (.cells #[] 5)) w.heap.size 5 .u8 0 (fun _ => 0) (.slice (some ⟨w.heap.size, 0, none⟩) 0 0) := Own.lit w w.heap.size 5 .u8 0 (fun _ => 0) hwz (by unfold maxLen; omega)
  have hlb := (Below.refl w.heap.size w).alloc (Nat.le_refl _) (.cells #[] 5)
  replace hwz := Nat.le_trans hwz hlb.size
  replace M := M.call hlb
  replace OF := OF.below hlb
  clear hlb
  generalize w.alloc (.cells #[] 5) = w1 at M O_1 hwz OF ⊢
  generalize (some ⟨w.heap.size, 0, none⟩ : Option Addr) = p1 at O_1 ⊢
  refine readL (.slice sp b.length cap) rfl (by kernel_rfl) ?_
  simp only [aP, lI, l0, lS]
  obtain ⟨v, w2, hr, O_2, hgr, _⟩ := run_append_Own (P := Tryz.prog) (ty := 28) Tryz.underlying28 one8 O_1 sp b.length cap (bl b) (hs.off OF).1 hnil (by unfold maxLen; omega) (by omega) hwz
  replace M := M.grown hgr w.heap.size hML (by omega) hwz (fun b hb => (World.ownsRow.lt O_1 b hb).1)
  replace OF := OF.grown hgr (fun b hb => .inr (World.ownsRow.lt O_1 b hb).1)
  replace hwz := Nat.le_trans hwz hgr.size
  refine actL v rfl (appendOp _ _ 28 _ _ _ rfl rfl rfl hr) ?_
  simp only [aP, lI, l0, lS]
  clear hr hgr O_1
  obtain ⟨p2, c2, rfl, _, _⟩ := O_2.bytes
  refine readL (.slice p2 (0 + b.length) c2) rfl (by kernel_rfl) ?_
  simp only [aP, lI, l0, lS]
  first | show Exit.then _ _ _ _ _ | show Exit.inBlock _ _ _ _ _
  cases hhas : s.has with
  | true =>
    go_upto_region 2 with fail
    refine wp_region_list ?_
    refine readL (.pointer (some ⟨R, 0, none⟩)) rfl (by kernel_rfl) ?_
    simp only [aP, lI, l0, lS]
    refine readL (.pointer (some ⟨R, 0, none⟩)) rfl (by kernel_rfl) ?_
    simp only [aP, lI, l0, lS]
    refine readL (.pointer (some ⟨R, 96, none⟩)) rfl (by kernel_rfl) ?_
    simp only [aP, lI, l0, lS]
    refine readL (.bool true) rfl (load1 4 _ ⟨R, 96, none⟩ _ rfl rfl (fun _ => by kernel_rfl) (by rw [← hhas]; exact M.get mS 96 _ (stc_rest s 0))) ?_
    simp only [aP, lI, l0, lS]
    first | show Exit.then _ _ _ _ _ | show Exit.inBlock _ _ _ _ _
    go_upto_region 3 with fail
    refine wp_region_held_drew (S := fun w' => Mm w0 ((R, stc s) :: l) w') (by kernel_rfl) M.drew ?_
    clear M
    intro M
    have hdr := (Below.refl w2.heap.size w2).drew
    replace OF := OF.below hdr
    replace O_2 := O_2.below hdr
    replace hwz := Nat.le_trans hwz hdr.size
    clear hdr
    generalize w2.drew = w3 at M hwz OF O_2 ⊢
    refine readHg (i := 0) (some 17) rfl (.pointer (some ⟨R, 0, none⟩)) rfl rfl (fun _ M => (by kernel_rfl)) M ?_
    simp only [aP, lI, l0, lS]
    refine readHg (i := 1) (some 18) rfl (.pointer (some ⟨R, 0, none⟩)) rfl rfl (fun _ M => (by kernel_rfl)) M ?_
    simp only [aP, lI, l0, lS]
    refine readHg (i := 2) (some 19) rfl (.pointer (some ⟨R, 64, none⟩)) rfl rfl (fun _ M => (by kernel_rfl)) M ?_
    simp only [aP, lI, l0, lS]
    refine readHg (i := 3) (some 20) rfl (.agg (row .u8 32 s.k).toArray) rfl rfl (fun _ M => loadN 38 _ ⟨R, 64, none⟩ (row .u8 32 s.k) rfl rfl (fun _ => by kernel_rfl) (fun _ => by rw [row32]; kernel_rfl) (M.part mS 64 _ (stc_k s))) M ?_
    simp only [aP, lI, l0, lS]
    refine readHg (i := 4) (some 21) rfl (.pointer (some ⟨R, 0, none⟩)) rfl rfl (fun _ M => (by kernel_rfl)) M ?_
    simp only [aP, lI, l0, lS]
    refine readHg (i := 6) (some 23) rfl (.pointer (some ⟨R, 0, none⟩)) rfl rfl (fun _ M => (by kernel_rfl)) M ?_
    simp only [aP, lI, l0, lS]
    refine readHg (i := 7) (some 24) rfl (.pointer (some ⟨R, 0, none⟩)) rfl rfl (fun _ M => (by kernel_rfl)) M ?_
    simp only [aP, lI, l0, lS]
    refine readHg (i := 8) (some 25) rfl (.pointer (some ⟨R, 0, none⟩)) rfl rfl (fun _ M => (by kernel_rfl)) M ?_
    simp only [aP, lI, l0, lS]
    refine readHg (i := 9) (some 26) rfl (.slice (some ⟨R, 0, none⟩) 32 32) rfl rfl (fun _ M => cutAll 38 _ _ _ rfl rfl (by kernel_rfl)) M ?_
    simp only [aP, lI, l0, lS]
    refine readHg (i := 10) (some 27) rfl (.slice sp b.length cap) rfl rfl (fun _ M => (by kernel_rfl)) M ?_
    simp only [aP, lI, l0, lS]
    have hC : Calls Tryz.prog 30 #[.pointer (some ⟨R, 0, none⟩)] w3 (fun e w' => e = .returned (.agg (row .u8 12 (snz s.n)).toArray) ∧ Below w3.heap.size w3 w') := rnonce12_any w0 _ R _ s M
    refine callH (i := 5) (some 22) rfl (by kernel_rfl) rfl rfl (fun _ => by kernel_rfl) (hC) ?_
    rintro e w4 ⟨rfl, l⟩
    replace M := M.call l
    refine ⟨_, rfl, M, ?_⟩
    replace OF := OF.below l
    replace O_2 := O_2.below l
    replace hwz := Nat.le_trans hwz l.size
    clear l hC
    simp only [aP, lI, l0, lS]
    refine callH (i := 11) (some 28) rfl (by kernel_rfl) rfl rfl (fun _ => by kernel_rfl) (refOpen_own s.k (snz s.n) hsw.k (snz_in s.n) (some ⟨R, 0, none⟩) 32 32 (by decide) (fun e => by cases e) s.h hsw.h sp b.length cap (by omega) hcap hnil (bl b) hb.bl _ (M.srcRow mS 0 32 _ (stc_h s)) (hs.off OF).1) ?_
    rintro e w5 ⟨sp', cap', rfl, O_s, l1⟩
    replace M := M.call l1
    replace OF := OF.below l1
    have O_5 : OwnL w5 w.heap.size (soT s b) (.slice sp' (aoL s.k (snz s.n) 32 s.h b.length (bl b)) cap') := by rw [soT_key hhas]; exact Own.toL (Own.lower O_s hwz)
    have hL_ : aoL s.k (snz s.n) 32 s.h b.length (bl b) = (soT s b).length := by rw [soT_key hhas, List.length_map, List.length_range]
    rw [hL_] at O_5 ⊢
    rw [← soE_key hhas]
    replace hwz := Nat.le_trans hwz l1.size
    clear l1 O_s hL_ O_2
    refine ⟨_, rfl, M, ?_⟩
    simp only [aP, lI, l0, lS]
    refine readHg (i := 12) (some 16) rfl (.tuple #[.slice sp' ((soT s b).length) cap', .int .i64 (soE s b)]) rfl rfl (fun _ M => (by kernel_rfl)) M ?_
    simp only [aP, lI, l0, lS]
    refine readHg (i := 13) (some 29) rfl (.slice sp' ((soT s b).length) cap') rfl rfl (fun _ M => (by kernel_rfl)) M ?_
    simp only [aP, lI, l0, lS]
    refine readHg (i := 14) (some 30) rfl (.int .i64 (soE s b)) rfl rfl (fun _ M => (by kernel_rfl)) M ?_
    simp only [aP, lI, l0, lS]
    refine readHg (i := 15) (some 7) rfl (.slice sp' ((soT s b).length) cap') rfl rfl (fun _ M => (by kernel_rfl)) M ?_
    simp only [aP, lI, l0, lS]
    refine readHg (i := 16) (some 8) rfl (.int .i64 (soE s b)) rfl rfl (fun _ M => (by kernel_rfl)) M ?_
    simp only [aP, lI, l0, lS]
    refine wpAnyH_done (by kernel_rfl) ?_ _
    first | show Exit.then _ _ _ _ _ | show Exit.inBlock _ _ _ _ _
    by_cases hE : soE s b = 0
    · go_upto_region 4 with fail
      refine wp_region_list ?_
      refine readL (.int .i64 (soE s b)) rfl (by kernel_rfl) ?_
      simp only [aP, lI, l0, lS]
      refine readL (.bool false) rfl (neqI .i64 _ _ _ _ _ _ rfl rfl rfl false (by rw [hE]; rfl) _) ?_
      simp only [aP, lI, l0, lS]
      first | show Exit.then _ _ _ _ _ | show Exit.inBlock _ _ _ _ _
      go_upto_region 6 with fail
      refine wp_region_list ?_
      refine readL (.slice sp' ((soT s b).length) cap') rfl (by kernel_rfl) ?_
      simp only [aP, lI, l0, lS]
      refine readL (.slice sp' ((soT s b).length) cap') rfl (by kernel_rfl) ?_
      simp only [aP, lI, l0, lS]
      first | show Exit.then _ _ _ _ _ | show Exit.inBlock _ _ _ _ _
      go_upto_region 7 with fail
      refine wp_region_list ?_
      refine readL (.pointer (some ⟨R, 0, none⟩)) rfl (by kernel_rfl) ?_
      simp only [aP, lI, l0, lS]
      refine readL (.pointer (some ⟨R, 0, none⟩)) rfl (by kernel_rfl) ?_
      simp only [aP, lI, l0, lS]
      refine readL (.pointer (some ⟨R, 97, none⟩)) rfl (by kernel_rfl) ?_
      simp only [aP, lI, l0, lS]
      refine readL (.int .i64 ((s.n : Nat) : Int)) rfl (load1 3 _ ⟨R, 97, none⟩ _ rfl rfl (fun _ => by kernel_rfl) (M.get mS 97 _ (stc_rest s 1))) ?_
      simp only [aP, lI, l0, lS]
      refine readL (.int .i64 ((s.n + 1 : Nat) : Int)) rfl (addI .i64 _ _ _ _ _ _ _ rfl rfl rfl (by rw [IntKind.wrap_i64]; omega) _) ?_
      simp only [aP, lI, l0, lS]
      refine readL (.pointer (some ⟨R, 0, none⟩)) rfl (by kernel_rfl) ?_
      simp only [aP, lI, l0, lS]
      refine readL (.pointer (some ⟨R, 97, none⟩)) rfl (by kernel_rfl) ?_
      simp only [aP, lI, l0, lS]
      refine skipOpL rfl (storeAny (.int .i64 ((s.n + 1 : Nat) : Int)) R 97 3 _ _ rfl rfl rfl rfl rfl (M.isSome mS 97 (by rw [stc_len]; decide)) (M.free mS 97 (by rw [stc_len]; decide)) (by kernel_rfl)) ?_
      simp only [Act.put]
      replace M := M.set 97 (by rw [stc_len]; decide) (.int .i64 ((s.n + 1 : Nat) : Int))
      rw [show (.int .i64 ((s.n + 1 : Nat) : Int) : Value) = .int .i64 ((s.n + 1 : Nat) : Int) from rfl, stc_set97] at M
      replace OF := OF.and1 ((Off.refl [R] _).set (b := R) mS 97 (.int .i64 ((s.n + 1 : Nat) : Int))) (.inl mS)
      replace O_5 := Own.off1 O_5 ((Off.refl [R] _).set (b := R) mS 97 (.int .i64 ((s.n + 1 : Nat) : Int))) (by omega)
      generalize w5.setCell ⟨R, 97, none⟩ (.int .i64 ((s.n + 1 : Nat) : Int)) = w6 at M OF O_5 ⊢
      replace M : Mm w0 ((R, stc (⟨s.h, s.c, s.k, s.has, s.n + 1⟩ : Sym)) :: l) w6 := M
      first | show Exit.then _ _ _ _ _ | show Exit.inBlock _ _ _ _ _
      go_upto_region 8 with fail
      refine wp_region_list ?_
      refine readL (.pointer (some ⟨R, 0, none⟩)) rfl (by kernel_rfl) ?_
      simp only [aP, lI, l0, lS]
      refine readL (.slice sp b.length cap) rfl (by kernel_rfl) ?_
      simp only [aP, lI, l0, lS]
      refine callL rfl (fun _ => by kernel_rfl) (rmix_any w0 _ R _ (⟨s.h, s.c, s.k, s.has, s.n + 1⟩ : Sym) hsw.h sp cap b (by omega) hnil hb M (hs.off OF)) ?_
      rintro e w7 ⟨rfl, M', o1⟩
      clear M
      have M := M'
      clear M'
      replace OF := OF.trans o1
      replace O_5 := Own.off1 O_5 o1 (by omega)
      clear o1
      refine ⟨_, rfl, ?_⟩
      simp only [aP, lI, l0, lS]
      first | show Exit.then _ _ _ _ _ | show Exit.inBlock _ _ _ _ _
      go_upto_region 9 with fail
      refine wp_region_list ?_
      refine readL (.slice sp' ((soT s b).length) cap') rfl (by kernel_rfl) ?_
      simp only [aP, lI, l0, lS]
      refine readL (.slice sp' ((soT s b).length) cap') rfl (by kernel_rfl) ?_
      simp only [aP, lI, l0, lS]
      refine readL (.int .i64 0) rfl (by kernel_rfl) ?_
      simp only [aP, lI, l0, lS]
      first | show Exit.then _ _ _ _ _ | show Exit.inBlock _ _ _ _ _
      rw [← smix_next s b hhas] at M
      have HS := show Hid _ from (And.intro O_5 (And.intro M OF))
      clear O_5 M OF
      go_wp2
      go_ret2
      exact ⟨⟨.slice sp' (soT s b).length cap', by rw [hE]; rfl, HS.out.1⟩, by unfold sopen; rw [if_pos hE]; exact HS.out.2.1, HS.out.2.2⟩
    · go_upto_region 4 with fail
      refine wp_region_list ?_
      refine readL (.int .i64 (soE s b)) rfl (by kernel_rfl) ?_
      simp only [aP, lI, l0, lS]
      refine readL (.bool true) rfl (neqI .i64 _ _ _ _ _ _ rfl rfl rfl true (by rw [bne_iff_ne]; exact hE) _) ?_
      simp only [aP, lI, l0, lS]
      first | show Exit.then _ _ _ _ _ | show Exit.inBlock _ _ _ _ _
      go_upto_region 5 with fail
      refine wp_region_list ?_
      refine readL (.int .i64 (soE s b)) rfl (by kernel_rfl) ?_
      simp only [aP, lI, l0, lS]
      refine readL (.slice none 0 0) rfl (by kernel_rfl) ?_
      simp only [aP, lI, l0, lS]
      refine readL (.int .i64 (soE s b)) rfl (by kernel_rfl) ?_
      simp only [aP, lI, l0, lS]
      first | show Exit.then _ _ _ _ _ | show Exit.inBlock _ _ _ _ _
      have O_e : OwnL w5 w.heap.size (soT s b) (.slice none 0 0) := by rw [soT_err hE]; exact World.ownsRow_nil _ _ _ _
      have HS := show Hid _ from (And.intro O_e (And.intro M OF))
      clear O_e M OF
      go_wp2
      go_ret2
      exact ⟨⟨_, rfl, HS.out.1⟩, by unfold sopen; rw [if_neg hE]; exact HS.out.2.1, HS.out.2.2⟩
  | false =>
    go_upto_region 2 with fail
    refine wp_region_list ?_
    refine readL (.pointer (some ⟨R, 0, none⟩)) rfl (by kernel_rfl) ?_
    simp only [aP, lI, l0, lS]
    refine readL (.pointer (some ⟨R, 0, none⟩)) rfl (by kernel_rfl) ?_
    simp only [aP, lI, l0, lS]
    refine readL (.pointer (some ⟨R, 96, none⟩)) rfl (by kernel_rfl) ?_
    simp only [aP, lI, l0, lS]
    refine readL (.bool false) rfl (load1 4 _ ⟨R, 96, none⟩ _ rfl rfl (fun _ => by kernel_rfl) (by rw [← hhas]; exact M.get mS 96 _ (stc_rest s 0))) ?_
    simp only [aP, lI, l0, lS]
    first | show Exit.then _ _ _ _ _ | show Exit.inBlock _ _ _ _ _
    have hso : soT s b = b := by unfold soT; rw [hhas]; rfl
    have hsn : snext s = s := by unfold snext; rw [hhas]; rfl
    have hE : soE s b = 0 := by unfold soE; rw [hhas]; rfl
    have e0 : Own w2 w.heap.size 5 .u8 (0 + b.length) (bl b) (.slice p2 (0 + b.length) c2) := Own.congr O_2 fun j _ => by unfold app; rw [if_neg (by omega), Nat.sub_zero]
    clear O_2
    have O_2 : OwnL w2 w.heap.size b (.slice p2 (0 + b.length) c2) := by unfold OwnL; rw [Nat.zero_add] at e0 ⊢; exact e0
    clear e0
    rw [show 0 + b.length = b.length by omega] at O_2 ⊢
    go_upto_region 8 with fail
    refine wp_region_list ?_
    refine readL (.pointer (some ⟨R, 0, none⟩)) rfl (by kernel_rfl) ?_
    simp only [aP, lI, l0, lS]
    refine readL (.slice sp b.length cap) rfl (by kernel_rfl) ?_
    simp only [aP, lI, l0, lS]
    refine callL rfl (fun _ => by kernel_rfl) (rmix_any w0 _ R _ s hsw.h sp cap b (by omega) hnil hb M (hs.off OF)) ?_
    rintro e w8 ⟨rfl, M', o1⟩
    clear M
    have M := M'
    clear M'
    replace OF := OF.trans o1
    replace O_2 := Own.off1 O_2 o1 (by omega)
    clear o1
    refine ⟨_, rfl, ?_⟩
    simp only [aP, lI, l0, lS]
    first | show Exit.then _ _ _ _ _ | show Exit.inBlock _ _ _ _ _
    go_upto_region 9 with fail
    refine wp_region_list ?_
    refine readL (.slice p2 b.length c2) rfl (by kernel_rfl) ?_
    simp only [aP, lI, l0, lS]
    refine readL (.slice p2 b.length c2) rfl (by kernel_rfl) ?_
    simp only [aP, lI, l0, lS]
    refine readL (.int .i64 0) rfl (by kernel_rfl) ?_
    simp only [aP, lI, l0, lS]
    first | show Exit.then _ _ _ _ _ | show Exit.inBlock _ _ _ _ _
    have hss : sopen s b = smix s b := by unfold sopen; rw [if_pos hE, hsn]
    have HS := show Hid _ from (And.intro O_2 (And.intro M OF))
    clear O_2 M OF
    go_wp2
    go_ret2
    exact ⟨⟨.slice p2 b.length c2, by rw [hE]; rfl, by rw [hso]; exact HS.out.1⟩, by rw [hss]; exact HS.out.2.1, HS.out.2.2⟩
end Go.Proofs.YtgfpflcoknpbdaaGreatDoor
