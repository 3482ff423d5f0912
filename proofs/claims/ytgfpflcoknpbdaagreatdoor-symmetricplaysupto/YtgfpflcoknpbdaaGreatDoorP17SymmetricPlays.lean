/- Texts of Ps Iy Nw, joined. -/
import Derived.Test.YtgfpflcoknpbdaaGreatDoorP1SymmetricPlays
import Derived.Test.YtgfpflcoknpbdaaGreatDoorP13SymmetricPlays
import Derived.Test.YtgfpflcoknpbdaaGreatDoorP4SymmetricPlays
import Derived.Test.YtgfpflcoknpbdaaGreatDoorP16SymmetricPlays
import Derived.Test.YtgfpflcoknpbdaaGreatDoorP14SymmetricPlays
import Derived.Test.YtgfpflcoknpbdaaGreatDoorP6SymmetricPlays
import Derived.Test.YtgfpflcoknpbdaaGreatDoorP12SymmetricPlays
set_option maxRecDepth 20000
set_option maxHeartbeats 64000000
namespace Go.Proofs.YtgfpflcoknpbdaaGreatDoor
open Go.RowKit
theorem Has.mid {w : World} {b : Nat} {k : IntKind} {n : Nat} {f : Nat → Int} (h : Has w b k n f) (o m : Nat) (ho : o + m ≤ n) : w.rangeAt b o (row k m (fun j => f (o + j))) := fun j v hv => by
  obtain ⟨hj, rfl⟩ := row_get_some hv
  exact h.cell (o + j) (by omega)
theorem pfactor_any (r : Nat → Int) (hr : In 256 16 r) (w : World) (hg : Glob w) :
    Calls Tryz.prog 68 #[(.agg (row .u8 16 (r)).toArray)] w fun e w' => e = .returned (.agg (row .u8 17 (byB (trimT r))).toArray) ∧ Below w.heap.size w w' := by
  have K := Kr.init w
  replace K := K.box .u8 16 r 65 (w.heap.size) rfl
  replace K := K.make 17 zu8_17 96 (w.heap.size + 1) (by simp) (big_zero _ _ _ (by simp)).there
  go_enter Tryz.func68, Tryz.ntmps68
  go_upto_region 1 with fail
  generalize ((w.alloc (.cells (row .u8 16 r).toArray 65)).alloc (.cells zu8_17 96)) = w0 at K ⊢
  refine wp_region_list ?_
  refine rowKL .u8 16 (r) (w.heap.size) 0 65 _ _ rfl rfl rfl Tryz.underlying65 rfl (tag_info _) ((K.get _ _ _ _ mS).range) ?_
  simp only [aP, lI, l0, lS]
  refine callL rfl (fun _ => by kernel_rfl) (ctrim_any r hr _ (hg.below K.below hg.size)) ?_
  rintro e w1 ⟨rfl, l⟩
  replace K := K.call l
  clear l
  refine ⟨_, rfl, ?_⟩
  simp only [aP, lI, l0, lS]
  refine storesL .u8 16 (trimT r) (w.heap.size) 65 _ _ rfl rfl rfl rfl (tag_there (K.get _ _ _ _ mS)) (tag_info' _) ?_
  simp only [Act.put]
  replace K := K.set [] (w.heap.size) .u8 16 r (trimT r) mS (fun _ hp => by cases hp) (fun _ hp => by cases hp) (Nat.le_refl _)
  generalize w1.setCells (w.heap.size) 0 (row .u8 16 (trimT r)) = w2 at K ⊢
  show Exit.then _ _ _ _ _
  go_upto_region 2 with fail
  have zX := K.size
  replace K := K.boxO .u8 17 (fun _ => 0) (.cells zu8_17 96) w2.heap.size rfl (big_zero _ _ _ rfl)
  go_upto_region 3 with fail
  generalize hw : w2.alloc (.cells zu8_17 96) = w3 at K ⊢
  clear hw
  generalize w2.heap.size = X at *
  have HR := K.get _ _ _ _ mS
  replace K := K.loose [(w.heap.size, .u8, 16, trimT r)] X .u8 17 (fun _ => 0) mS (fun p hp => by obtain rfl := List.mem_singleton.1 hp; exact (mT _ mS)) (fun p hp => by obtain rfl := List.mem_singleton.1 hp; simp only; omega) (by omega)
  refine wp_region_held_drew (S := fun w' => Kr w (X + 1) [(w.heap.size, .u8, 16, trimT r)] [(X, 17), (w.heap.size + 1, 17)] w') (by kernel_rfl) K.drew ?_
  clear K
  intro K
  replace HR := HR.drew
  generalize w3.drew = w4 at K HR ⊢
  refine pureHg (i := 0) (some 6) rfl (.slice (some ⟨X, 0, none⟩) 17 17) rfl rfl (fun _ => by kernel_rfl) K ?_
  simp only [aP, lI, l0, lS]
  refine pureHg (i := 1) (some 7) rfl (.slice (some ⟨w.heap.size, 0, none⟩) 16 16) rfl rfl (fun _ => by kernel_rfl) K ?_
  simp only [aP, lI, l0, lS]
  refine actH (i := 2) (some 8) rfl (.int .i64 ((16 : Nat) : Int)) (by kernel_rfl) rfl rfl (run_copy_src _ _ 28 28 5 rfl Tryz.underlying28 (by kernel_rfl) X 17 17 16 16 17 (some ⟨w.heap.size, 0, none⟩) (trimT r) rfl rfl (by decide) (by decide) HR.there (K.get _ _ _ _ mS).src0) (K.fill X 17 mS (row .u8 16 (trimT r))) ?_
  simp only [aP, lI, l0, lS]
  refine wpAnyH_done (by kernel_rfl) ?_ _
  replace K := K.fill X 17 mS (row .u8 16 (trimT r))
  replace HR := (HR.part 0 16 (by decide) (trimT r)).congr (g := byB (trimT r)) (fun j hj => by
    unfold over byB
    by_cases e : j < 16
    · rw [if_pos (by omega), if_pos e, Nat.sub_zero]
    · rw [if_neg (by omega), if_neg e])
  generalize w4.setCells X 0 (row .u8 16 (trimT r)) = w5 at K HR ⊢
  go_upto_region 4 with fail
  have hz := (K.room _ (mT _ mS)).1
  have hB := (K.fill _ _ (mT _ mS) (row .u8 17 (byB (trimT r)))).below
  clear K
  generalize hj : byB (trimT r) = f at *
  go_wp2_with (first | (refine wpList_load_mid rfl 96 _ rfl (X) 0 rfl (row .u8 17 (f)) _ (Has.range (HR)) Tryz.underlying96 rfl (big_info _) ?_) | (refine wpList_store_mid rfl 96 _ _ rfl (w.heap.size + 1) 0 (row .u8 17 f).toArray rfl rfl (room_of hz) (big_info' _) (all_oneCell_toArray (row_one _ _ _)) ?_))
  exact bodyPost_ret (v := (.agg (row .u8 17 (f)).toArray)) (results_row Tryz.results68 rfl (Has.all hz .u8 f).range Tryz.underlying96 rfl (big_info f)) rfl ⟨rfl, hB⟩
theorem pnumber_any (sp : Option Addr) (len cap : Nat) (z : Nat → Int) (w : World) (hs : Src w sp len z) :
    Calls Tryz.prog 71 #[.slice sp len cap] w fun e w' => e = .returned (.agg (row .u8 17 (blk len z)).toArray) ∧ Below w.heap.size w w' := by
  have K := Kr.init w
  replace K := K.make 17 zu8_17 96 (w.heap.size) rfl (big_zero _ _ _ rfl).there
  go_enter Tryz.func71, Tryz.ntmps71
  go_upto_region 1 with fail
  generalize (w.alloc (.cells zu8_17 96)) = w0 at K ⊢
  refine wp_region_list ?_
  refine pureL (.slice sp len cap) rfl (fun _ => by kernel_rfl) ?_
  simp only [aP, lI, l0, lS]
  refine callL rfl (fun _ => by kernel_rfl) (cblock_any sp len cap z _ (hs.below K.below (Nat.le_refl _))) ?_
  rintro e w1 ⟨rfl, l⟩
  replace K := K.call l
  clear l
  refine ⟨_, rfl, ?_⟩
  simp only [aP, lI, l0, lS]
  refine pureL (.tuple #[.agg (row .u8 17 (blk len z)).toArray, .int .i64 (blkE len)]) rfl (fun _ => by kernel_rfl) ?_
  simp only [aP, lI, l0, lS]
  refine pureL (.agg (row .u8 17 (blk len z)).toArray) rfl (fun _ => by kernel_rfl) ?_
  simp only [aP, lI, l0, lS]
  refine pureL (.int .i64 (blkE len)) rfl (fun _ => by kernel_rfl) ?_
  simp only [aP, lI, l0, lS]
  refine allocL zu8_17 96 rfl (fun _ => by kernel_rfl) ?_
  simp only [aP, lI, l0, lS]
  refine storesL .u8 17 (blk len z) w1.heap.size 96 _ _ rfl rfl rfl rfl (room_of (big_zero _ _ _ rfl).there) (big_info' _) ?_
  simp only [Act.put]
  have zG := K.size
  replace K := K.fresh .u8 17 (blk len z) zu8_17 96 (big_zero _ _ _ rfl).there
  generalize ((w1.alloc (.cells zu8_17 96)).setCells w1.heap.size 0 (row .u8 17 (blk len z))) = w2 at K ⊢
  generalize w1.heap.size = G at *
  refine pureL (.int .i64 (blkE len)) rfl (fun _ => by kernel_rfl) ?_
  simp only [aP, lI, l0, lS]
  show Exit.then _ _ _ _ _
  go_upto_region 2 with fail
  have HR := K.get _ _ _ _ mS
  have hz := (K.room _ mS).1
  have hB := (K.fill _ _ mS (row .u8 17 (blk len z))).below
  clear K hs
  generalize hj : blk len z = f at *
  go_wp2_with (first | (refine wpList_load_mid rfl 96 _ rfl (G) 0 rfl (row .u8 17 (f)) _ (Has.range (HR)) Tryz.underlying96 rfl (big_info _) ?_) | (refine wpList_store_mid rfl 96 _ _ rfl (w.heap.size) 0 (row .u8 17 f).toArray rfl rfl (room_of hz) (big_info' _) (all_oneCell_toArray (row_one _ _ _)) ?_))
  exact bodyPost_ret (v := (.agg (row .u8 17 (f)).toArray)) (results_row Tryz.results71 rfl (Has.all hz .u8 f).range Tryz.underlying96 rfl (big_info f)) rfl ⟨rfl, hB⟩
theorem psum_any : SumOK := by
  intro k hk sp len cap hlen hcap z hz w hg hs
  have hk1 : In 256 16 k := fun j hj => hk j (by omega)
  have hk2 : In 256 16 (fun j => k (16 + j)) := fun j hj => hk (16 + j) (by omega)
  have K := Kr.init w
  replace K := K.box .u8 32 k 38 (w.heap.size) rfl
  replace K := K.make 16 zu8_16 65 (w.heap.size + 1) (by simp) (tag_zero _ _ _ (by simp)).there
  go_enter Tryz.func52, Tryz.ntmps52
  go_upto_region 1 with fail
  generalize ((w.alloc (.cells (row .u8 32 k).toArray 38)).alloc (.cells zu8_16 65)) = w0 at K ⊢
  refine wp_region_list ?_
  refine pureL (.slice (some ⟨w.heap.size, 0, none⟩) 16 32) rfl (fun _ => by kernel_rfl) ?_
  simp only [aP, lI, l0, lS]
  refine pureL (.pointer (some ⟨w.heap.size, 0, none⟩)) rfl (fun _ => by kernel_rfl) ?_
  simp only [aP, lI, l0, lS]
  refine rowKL .u8 16 k (w.heap.size) 0 65 _ _ rfl rfl rfl Tryz.underlying65 rfl (tag_info _) (by have h := (K.get _ _ _ _ mS).mid 0 16 (by decide); simpa using h) ?_
  simp only [aP, lI, l0, lS]
  refine callL rfl (fun _ => by kernel_rfl) (pfactor_any k hk1 _ (hg.below K.below hg.size)) ?_
  rintro e w1 ⟨rfl, l⟩
  replace K := K.call l
  clear l
  refine ⟨_, rfl, ?_⟩
  simp only [aP, lI, l0, lS]
  refine allocL zu8_17 96 rfl (fun _ => by kernel_rfl) ?_
  simp only [aP, lI, l0, lS]
  refine storesL .u8 17 (byB (trimT k)) w1.heap.size 96 _ _ rfl rfl rfl rfl (room_of (big_zero _ _ _ rfl).there) (big_info' _) ?_
  simp only [Act.put]
  have zT := K.size
  replace K := K.fresh .u8 17 (byB (trimT k)) zu8_17 96 (big_zero _ _ _ rfl).there
  generalize ((w1.alloc (.cells zu8_17 96)).setCells w1.heap.size 0 (row .u8 17 (byB (trimT k)))) = w2 at K ⊢
  generalize w1.heap.size = T at *
  show Exit.then _ _ _ _ _
  go_upto_region 2 with fail
  have zX := K.size
  replace K := K.boxO .u8 17 (fun _ => 0) (.cells zu8_17 96) w2.heap.size rfl (big_zero _ _ _ rfl)
  go_upto_region 3 with fail
  generalize hw : w2.alloc (.cells zu8_17 96) = w5 at K ⊢
  clear hw
  generalize w2.heap.size = X at *
  go_wp2
  go_loopw [7] (fun i w' => ∃ (t : Nat) (a : Nat → Int), 16 * t < len + 16 ∧ i = .int .i64 (16 * (t : Int)) ∧ Kr w (X + 1) [(X, .u8, 17, a), (T, .u8, 17, byB (trimT k)), (w.heap.size, .u8, 32, k)] [(w.heap.size + 1, 16)] w' ∧ In 256 17 a ∧ val 256 a 17 = acc (pR k) len z t) (fun i _ => len + 16 - (intOf i).toNat)
  case atStart => exact ⟨0, _, by omega, rfl, K, fun _ _ => ⟨Int.le_refl 0, (by decide : (0 : Int) < 256)⟩, by show val 256 (fun _ => 0) 17 = 0; decide⟩
  case round =>
    clear K
    obtain ⟨t, a, ht, rfl, K, ha, hv⟩ := hrel
    have g1 : (0 : Int) ≤ 16 * (t : Int) := by omega
    by_cases hlt : 16 * t < len
    · have g2 : 16 * (t : Int) < (len : Int) := by omega
      obtain ⟨M, hM⟩ : ∃ M : Nat, M = min (16 * t + 16) len := ⟨_, rfl⟩
      have hm : (if (len : Int) < 16 * (t : Int) + 16 then (len : Int) else 16 * (t : Int) + 16) = (M : Int) := by rw [hM]; split <;> omega
      obtain ⟨sq, hq1, hq2⟩ := cut_lh (P := Tryz.prog) (t := 28) (by kernel_rfl) (fun _ => by kernel_rfl) sp len cap (16 * t) M (by omega) (by omega) hcap
      have hpc : M - 16 * t = pcN len t := by unfold pcN; omega
      rw [hpc] at hq1 hq2
      have ec : ((16 * t : Nat) : Int) = 16 * (t : Int) := by omega
      rw [ec] at hq1
      go_upto_region 6 with fail
      refine wp_region_C (S := fun w' => Kr w (X + 1) [(X, .u8, 17, a), (T, .u8, 17, byB (trimT k)), (w.heap.size, .u8, 32, k)] [(w.heap.size + 1, 16)] w') 13 (by kernel_rfl) K.drew ?_
      clear K
      intro K
      refine rowC (i := 0) (some 18) rfl .u8 17 (a) (X) 0 96 _ _ rfl rfl (by kernel_rfl) rfl rfl rfl (by kernel_rfl) (by kernel_rfl) (by kernel_rfl) (by kernel_rfl) (fun _ _ _ h => h) Tryz.underlying96 rfl (big_info _) K (fun _ h => (h.get _ _ _ _ mS).range) ?_
      simp only [aP, lI, l0, lS]
      refine pureCg (i := 1) (some 19) rfl (.slice sp len cap) rfl (by decide) rfl (fun _ => by kernel_rfl) K ?_
      simp only [aP, lI, l0, lS]
      refine pureCg (i := 2) (some 20) rfl (.int .i64 (16 * (t : Int))) rfl (by decide) rfl (fun _ => by kernel_rfl) K ?_
      simp only [aP, lI, l0, lS]
      refine pureCg (i := 3) (some 21) rfl (.int .i64 (16 * (t : Int))) rfl (by decide) rfl (fun _ => by kernel_rfl) K ?_
      simp only [aP, lI, l0, lS]
      refine pureCg (i := 4) (some 22) rfl (.int .i64 (16 * (t : Int) + 16)) rfl (by decide) rfl (fun w => addI .i64 _ _ _ _ _ _ _ rfl rfl rfl (by rw [IntKind.wrap_i64]; omega) w) K ?_
      simp only [aP, lI, l0, lS]
      refine pureCg (i := 5) (some 23) rfl (.slice sp len cap) rfl (by decide) rfl (fun _ => by kernel_rfl) K ?_
      simp only [aP, lI, l0, lS]
      refine rowC (i := 11) (some 29) rfl .u8 17 (byB (trimT k)) (T) 0 96 _ _ rfl rfl (by kernel_rfl) rfl rfl rfl (by kernel_rfl) (by kernel_rfl) (by kernel_rfl) (by kernel_rfl) (fun _ _ _ h => h) Tryz.underlying96 rfl (big_info _) K (fun _ h => (h.get _ _ _ _ (mT _ mS)).range) ?_
      simp only [aP, lI, l0, lS]
      refine pureCg (i := 6) (some 24) rfl (.int .i64 (len : Int)) rfl (by decide) rfl (fun w => lenS _ 28 5 sp len cap rfl Tryz.underlying28 rfl w) K ?_
      simp only [aP, lI, l0, lS]
      refine pureCg (i := 7) (some 25) rfl (.int .i64 (M : Int)) rfl (by decide) rfl (fun w => minI .i64 .i64 _ _ _ _ _ _ _ rfl rfl rfl hm w) K ?_
      simp only [aP, lI, l0, lS]
      refine pureCg (i := 8) (some 26) rfl (.slice sq (pcN len t) (cap - 16 * t)) rfl (by decide) rfl (fun w => cutLHop _ _ _ _ _ _ _ _ rfl rfl rfl rfl (hq1 w)) K ?_
      simp only [aP, lI, l0, lS]
      refine callMC (i := 9) (some 27) rfl (by kernel_rfl) rfl rfl (fun _ => by kernel_rfl) (pnumber_any sq (pcN len t) (cap - 16 * t) (fun j => z (16 * t + j)) _ ((hq2 _ _ hs).below K.below (Nat.le_refl _))) ?_
      rintro e w9 ⟨rfl, l⟩
      replace K := K.call l
      clear l
      refine ⟨_, rfl, K, ?_⟩
      simp only [aP, lI, l0, lS]
      refine callMC (i := 10) (some 28) rfl (by kernel_rfl) rfl rfl (fun _ => by kernel_rfl) (cadd_any a (piece len z t) ha (piece_in len z t hz) _ (hg.below K.below hg.size)) ?_
      rintro e w11 ⟨f1, rfl, s1, l⟩
      replace K := K.call l
      clear l
      refine ⟨_, rfl, K, ?_⟩
      simp only [aP, lI, l0, lS]
      refine callMC (i := 12) (some 30) rfl (by kernel_rfl) rfl rfl (fun _ => by kernel_rfl) (cmul_any f1 (byB (trimT k)) s1.1 (byB_in _ (trimT_in k hk1)) _ (hg.below K.below hg.size)) ?_
      rintro e w12 ⟨f2, rfl, s2, l⟩
      replace K := K.call l
      clear l
      refine ⟨_, rfl, K, ?_⟩
      simp only [aP, lI, l0, lS]
      refine storesC (S2 := fun _ => True) none rfl .u8 17 f2 X 96 _ _ (by kernel_rfl) rfl rfl rfl rfl rfl (big_there (K.get _ _ _ _ mS)) (big_info' _) (by kernel_rfl) ?_
      simp only [Act.put]
      refine wpAnyH_done (by kernel_rfl) ?_ _
      have hv2 : val 256 f2 17 = acc (pR k) len z (t + 1) := acc_step (by rw [s1.2, hv]) (byB_val (trimT k)) s2.2
      replace K := K.set [(T, .u8, 17, byB (trimT k)), (w.heap.size, .u8, 32, k)] X .u8 17 a f2 mS (fun p hp => by rcases List.mem_cons.1 hp with rfl | hp; exact (mT _ mS); obtain rfl := List.mem_singleton.1 hp; exact (mT _ (mT _ mS))) (fun p hp => by rcases List.mem_cons.1 hp with rfl | hp; simp only; omega; obtain rfl := List.mem_singleton.1 hp; simp only; omega) (by omega)
      have HS := show Hid _ from (And.intro K (And.intro s2.1 hv2))
      clear K s1 s2 hv hv2 ha hm hM hq1 hq2 hpc ec
      generalize w12.setCells X 0 (row .u8 17 f2) = w13 at HS ⊢
      go_wp2
      go_roundw
      case rel => first | exact ⟨t + 1, f2, by omega, by go_num, HS.out⟩ | ((repeat apply Exists.intro); refine ⟨⟨t + 1, f2, by omega, by go_num, HS.out⟩, rfl⟩)
      case measure => simp [intOf]; omega
    · obtain rfl : t = npc len := by unfold npc; omega
      go_upto_region 7 with fail
      refine wp_region_C (S := fun w' => Kr w (X + 1) [(X, .u8, 17, a), (T, .u8, 17, byB (trimT k)), (w.heap.size, .u8, 32, k)] [(w.heap.size + 1, 16)] w') 5 (by kernel_rfl) K.drew ?_
      clear K
      intro K
      refine rowC (i := 0) (some 31) rfl .u8 17 (a) (X) 0 96 _ _ rfl rfl (by kernel_rfl) rfl rfl rfl (by kernel_rfl) (by kernel_rfl) (by kernel_rfl) (by kernel_rfl) (fun _ _ _ h => h) Tryz.underlying96 rfl (big_info _) K (fun _ h => (h.get _ _ _ _ mS).range) ?_
      simp only [aP, lI, l0, lS]
      refine pureCg (i := 1) (some 32) rfl (.slice (some ⟨w.heap.size, 16, none⟩) 16 16) rfl (by decide) rfl (fun _ => by kernel_rfl) K ?_
      simp only [aP, lI, l0, lS]
      refine pureCg (i := 2) (some 33) rfl (.pointer (some ⟨w.heap.size, 16, none⟩)) rfl (by decide) rfl (fun _ => by kernel_rfl) K ?_
      simp only [aP, lI, l0, lS]
      refine rowC (i := 3) (some 34) rfl .u8 16 (fun j => k (16 + j)) (w.heap.size) 16 65 _ _ rfl rfl (by kernel_rfl) rfl rfl rfl (by kernel_rfl) (by kernel_rfl) (by kernel_rfl) (by kernel_rfl) (fun _ _ _ h => h) Tryz.underlying65 rfl (tag_info _) K (fun _ h => (h.get _ _ _ _ (mT _ (mT _ mS))).mid 16 16 (by decide)) ?_
      simp only [aP, lI, l0, lS]
      refine callMC (i := 4) (some 35) rfl (by kernel_rfl) rfl rfl (fun _ => by kernel_rfl) (clow_any a (fun j => k (16 + j)) ha hk2 _ (hg.below K.below hg.size)) ?_
      rintro e w9 ⟨f, rfl, s1, l⟩
      replace K := K.call l
      clear l
      refine ⟨_, rfl, K, ?_⟩
      simp only [aP, lI, l0, lS]
      have hz' := (K.room _ mS).1
      refine storesC (S2 := fun _ => True) none rfl .u8 16 f (w.heap.size + 1) 65 _ _ (by kernel_rfl) rfl rfl rfl rfl rfl (room_of hz') (tag_info' _) (by kernel_rfl) ?_
      simp only [Act.put]
      refine wpAnyH_done (by kernel_rfl) ?_ _
      have hB := (K.fill _ _ mS (row .u8 16 f)).below
      have HE := show Hid _ from (And.intro s1.1 (show val 256 f 16 = ptag k len z by rw [s1.2, hv]; rfl))
      clear K s1 hv ha hlt ht g1
      go_wp2
      exact bodyPost_ret (v := (.agg (row .u8 16 (f)).toArray)) (results_row Tryz.results52 rfl (Has.all hz' .u8 f).range Tryz.underlying65 rfl (tag_info f)) rfl ⟨f, rfl, HE.out, hB⟩
theorem or_byte (d x y : Int) (hd : 0 ≤ d ∧ d < 256) (hx : 0 ≤ x ∧ x < 256) (hy : 0 ≤ y ∧ y < 256) :
    (0 ≤ bits .or .u8 d (bits .xor .u8 x y) ∧ bits .or .u8 d (bits .xor .u8 x y) < 256) ∧ (bits .or .u8 d (bits .xor .u8 x y) = 0 ↔ d = 0 ∧ x = y) := by
  obtain ⟨d, rfl⟩ := Int.eq_ofNat_of_zero_le hd.1
  obtain ⟨x, rfl⟩ := Int.eq_ofNat_of_zero_le hx.1
  obtain ⟨y, rfl⟩ := Int.eq_ofNat_of_zero_le hy.1
  have h1 : x ^^^ y < 2 ^ 8 := Nat.xor_lt_two_pow (by omega) (by omega)
  have h2 : d ||| (x ^^^ y) < 2 ^ 8 := Nat.or_lt_two_pow (by omega) h1
  rw [u8_xor_nat x y (by omega) (by omega), u8_or_nat d _ (by omega) (by omega)]
  refine ⟨by omega, ?_⟩
  have e : ((d ||| (x ^^^ y) : Nat) : Int) = 0 ↔ d ||| (x ^^^ y) = 0 := by omega
  have e2 : x ^^^ y = 0 ↔ x = y := by
    constructor
    · intro h
      have h' : x ^^^ (x ^^^ y) = x := by rw [h, Nat.xor_zero]
      rw [← Nat.xor_assoc, Nat.xor_self, Nat.zero_xor] at h'
      exact h'.symm
    · intro h; rw [h, Nat.xor_self]
  rw [e, Nat.or_eq_zero_iff, e2]
  omega
theorem orI {P : Program} {o : Oper} {a : Act} (k : IntKind) (n n' r : Int) (t t' : TypeId) (x y : Operand) (ho : o.op = .binOp .or t x y t') (hx : a.eval x = .int k n) (hy : a.eval y = .int k n') (hr : bits .or k n n' = r) (w : World) : (execOp a.eval o).run P w = .ok (.value (.int k r)) w := by
  unfold execOp
  simp only [ho, hx, hy, Sem.run_bind, eqGuard_at_int, binOp_or, intBits_or, Sem.run_pure, Result.andThen_ok, hr]
theorem same_iff (a b : Nat → Int) (ha : In 256 16 a) (hb : In 256 16 b) (d : Int) (h : d = 0 ↔ ∀ j, j < 16 → a j = b j) : (d == 0) = decide (val 256 a 16 = val 256 b 16) := by
  have e : d = 0 ↔ val 256 a 16 = val 256 b 16 := h.trans ⟨fun h => val_congr 256 16 h, fun h => val_inj 256 (by decide) a b 16 ha hb h⟩
  by_cases hd : d = 0
  · rw [decide_eq_true (e.1 hd), hd]; rfl
  · rw [decide_eq_false (fun h => hd (e.2 h))]; simpa using hd
theorem psame_any : SameOK := by
  intro a b ha hb w _
  have K := ((Kr.init w).box .u8 16 a 65 (w.heap.size) rfl).box .u8 16 b 65 (w.heap.size + 1) (by simp)
  go_enter Tryz.func43, Tryz.ntmps43
  go_upto_region 1 with fail
  generalize ((w.alloc (.cells (row .u8 16 a).toArray 65)).alloc (.cells (row .u8 16 b).toArray 65)) = w0 at K ⊢
  go_wp2
  go_loopw [5, 7] (fun so i w' => ∃ (m : Nat) (d : Int), m ≤ 16 ∧ i = .int .i64 m ∧ so = .int .u8 d ∧ Kr w (w.heap.size + 1 + 1) [(w.heap.size + 1, .u8, 16, b), (w.heap.size, .u8, 16, a)] [] w' ∧ (0 ≤ d ∧ d < 256) ∧ (d = 0 ↔ ∀ j, j < m → a j = b j)) (fun _ i _ => 16 - (intOf i).toNat)
  case atStart => exact ⟨0, 0, by omega, rfl, rfl, K, by omega, by simp⟩
  case round =>
    clear K
    obtain ⟨m, d, hm, rfl, rfl, K, hd, hz⟩ := hrel
    have g1 : (0 : Int) ≤ (m : Int) := by omega
    by_cases hlt : m < 16
    · have g2 : (m : Int) < 16 := by omega
      go_upto_region 5 with fail
      refine wp_region_held_drew (S := fun w' => Kr w (w.heap.size + 1 + 1) [(w.heap.size + 1, .u8, 16, b), (w.heap.size, .u8, 16, a)] [] w') (by kernel_rfl) K.drew ?_
      clear K
      intro K
      generalize wr.drew = w1 at K ⊢
      refine pureHg (i := 0) (some 10) rfl (.int .u8 d) rfl rfl (fun _ => by kernel_rfl) K ?_
      simp only [aP, lI, l0, lS]
      refine pureHg (i := 1) (some 11) rfl (.int .i64 (m : Int)) rfl rfl (fun _ => by kernel_rfl) K ?_
      simp only [aP, lI, l0, lS]
      refine pureHg (i := 2) (some 12) rfl (.pointer (some ⟨w.heap.size, m, none⟩)) rfl rfl (fun w' => idxTag (w.heap.size) m hlt w' _ _ rfl rfl rfl) K ?_
      simp only [aP, lI, l0, lS]
      refine cellH (i := 3) (some 13) rfl .u8 (.int .u8 (a m)) (w.heap.size) m 5 _ rfl rfl rfl rfl (by kernel_rfl) (by kernel_rfl) (by kernel_rfl) (fun _ _ _ h => h) Tryz.underlying5 K (fun _ h => (h.get _ _ _ _ (mT _ mS)).cell m hlt) ?_
      simp only [aP, lI, l0, lS]
      refine pureHg (i := 4) (some 14) rfl (.int .i64 (m : Int)) rfl rfl (fun _ => by kernel_rfl) K ?_
      simp only [aP, lI, l0, lS]
      refine pureHg (i := 5) (some 15) rfl (.pointer (some ⟨w.heap.size + 1, m, none⟩)) rfl rfl (fun w' => idxTag (w.heap.size + 1) m hlt w' _ _ rfl rfl rfl) K ?_
      simp only [aP, lI, l0, lS]
      refine cellH (i := 6) (some 16) rfl .u8 (.int .u8 (b m)) (w.heap.size + 1) m 5 _ rfl rfl rfl rfl (by kernel_rfl) (by kernel_rfl) (by kernel_rfl) (fun _ _ _ h => h) Tryz.underlying5 K (fun _ h => (h.get _ _ _ _ mS).cell m hlt) ?_
      simp only [aP, lI, l0, lS]
      refine pureHg (i := 7) (some 17) rfl (.int .u8 (bits .xor .u8 (a m) (b m))) rfl rfl (fun w => xorI .u8 _ _ _ _ _ _ _ rfl rfl rfl rfl w) K ?_
      simp only [aP, lI, l0, lS]
      refine pureHg (i := 8) (some 18) rfl (.int .u8 (bits .or .u8 d (bits .xor .u8 (a m) (b m)))) rfl rfl (fun w => orI .u8 _ _ _ _ _ _ _ rfl rfl rfl rfl w) K ?_
      simp only [aP, lI, l0, lS]
      refine pureHg (i := 9) (some 5) rfl (.int .u8 (bits .or .u8 d (bits .xor .u8 (a m) (b m)))) rfl rfl (fun _ => by kernel_rfl) K ?_
      simp only [aP, lI, l0, lS]
      refine wpAnyH_done (by kernel_rfl) ?_ _
      have ho := or_byte d (a m) (b m) hd (ha m hlt) (hb m hlt)
      have HS := show Hid _ from (And.intro K (And.intro ho.1 (show bits .or .u8 d (bits .xor .u8 (a m) (b m)) = 0 ↔ ∀ j, j < m + 1 → a j = b j from by
        rw [ho.2, hz]
        constructor
        · intro h j hj
          by_cases e : j = m
          · subst e; exact h.2
          · exact h.1 j (by omega)
        · intro h
          exact ⟨fun j hj => h j (by omega), h m (by omega)⟩)))
      clear K hz ho
      generalize bits .or .u8 d (bits .xor .u8 (a m) (b m)) = d2 at HS ⊢
      go_wp2
      go_roundw
      case rel => first | exact ⟨m + 1, d2, by omega, by go_num, rfl, HS.out⟩ | ((repeat apply Exists.intro); refine ⟨⟨m + 1, d2, by omega, by go_num, rfl, HS.out⟩, rfl⟩)
      case measure => simp [intOf]; omega
    · obtain rfl : m = 16 := by omega
      clear hlt hm g1
      have hr := same_iff a b ha hb d hz
      have hB := K.below
      clear K hz
      go_upto_region 7 with fail
      refine wp_region_list ?_
      refine pureL (.int .u8 d) rfl (fun _ => by kernel_rfl) ?_
      simp only [aP, lI, l0, lS]
      refine pureL (.bool (decide (val 256 a 16 = val 256 b 16))) rfl (fun w => eqlI .u8 _ _ _ _ _ _ rfl rfl rfl _ hr w) ?_
      simp only [aP, lI, l0, lS]
      refine pureL (.bool (decide (val 256 a 16 = val 256 b 16))) rfl (fun _ => by kernel_rfl) ?_
      simp only [aP, lI, l0, lS]
      show Exit.then _ _ _ _ _
      go_wp2
      go_ret
      exact ⟨rfl, hB⟩
theorem byt_dig (x : Nat) : ∀ j, j < 8 → byt (x : Int) j = dig x j
  | 0, _ => by show (x : Int) % 256 = ((x / 1 % 256 : Nat) : Int); omega
  | 1, _ => by show (x : Int) / 256 % 256 = ((x / 256 % 256 : Nat) : Int); omega
  | 2, _ => by show (x : Int) / 65536 % 256 = ((x / 65536 % 256 : Nat) : Int); omega
  | 3, _ => by show (x : Int) / 16777216 % 256 = ((x / 16777216 % 256 : Nat) : Int); omega
  | 4, _ => by show (x : Int) / 4294967296 % 256 = ((x / 4294967296 % 256 : Nat) : Int); omega
  | 5, _ => by show (x : Int) / 1099511627776 % 256 = ((x / 1099511627776 % 256 : Nat) : Int); omega
  | 6, _ => by show (x : Int) / 281474976710656 % 256 = ((x / 281474976710656 % 256 : Nat) : Int); omega
  | 7, _ => by show (x : Int) / 72057594037927936 % 256 = ((x / 72057594037927936 % 256 : Nat) : Int); omega
  | _ + 8, h => by omega
theorem cat3 (bl : Nat) (b : Nat → Int) (sl : Nat) (s : Nat → Int) (j : Nat) : catz (pk3 (up16 bl) (up16 sl) 16) (pk3 (padz bl b) (padz sl s) (app (dig bl) 8 (dig sl))) 3 j = amx bl b sl s j := by
  show app (app (app (fun _ => 0) 0 (padz bl b)) (0 + up16 bl) (padz sl s)) (0 + up16 bl + up16 sl) (app (dig bl) 8 (dig sl)) j = _
  unfold amx
  generalize up16 bl = x
  generalize up16 sl = y
  simp only [app, Nat.zero_add, Nat.not_lt_zero, if_false, Nat.sub_zero]
  by_cases h1 : j < x + y
  · rw [if_pos h1, if_pos (show j < x + y + 8 by omega), if_pos h1]
  · rw [if_neg h1]
    by_cases h2 : j < x + y + 8
    · rw [if_pos (by omega), if_pos h2, if_neg h1]
    · rw [if_neg (by omega), if_neg h2, show j - (x + y) - 8 = j - (x + y + 8) by omega]
theorem once_any (k n : Nat → Int) (hk : In 256 32 k) (hn : In 256 12 n) (w : World) (hg : HGlob w) :
    Calls Tryz.prog 53 #[(.agg (row .u8 32 (k)).toArray), (.agg (row .u8 12 (n)).toArray)] w fun e w' => e = .returned (.agg (row .u8 32 (hblk k 0 n)).toArray) ∧ Below w.heap.size w w' := by
  have K := Kr.init w
  replace K := K.box .u8 32 k 38 (w.heap.size) rfl
  replace K := K.box .u8 12 n 53 (w.heap.size + 1) (by simp)
  replace K := K.make 32 zu8_32 38 (w.heap.size + 1 + 1) (by simp) (key_zero _ _ _ (by simp)).there
  go_enter Tryz.func53, Tryz.ntmps53
  go_upto_region 1 with fail
  generalize (((w.alloc (.cells (row .u8 32 k).toArray 38)).alloc (.cells (row .u8 12 n).toArray 53)).alloc (.cells zu8_32 38)) = w0 at K ⊢
  refine wp_region_list ?_
  refine rowKL .u8 32 (k) (w.heap.size) 0 38 _ _ rfl rfl rfl Tryz.underlying38 rfl (key_info _) ((K.get _ _ _ _ (mT _ mS)).range) ?_
  simp only [aP, lI, l0, lS]
  refine rowKL .u8 12 (n) (w.heap.size + 1) 0 53 _ _ rfl rfl rfl Tryz.underlying53 rfl (hn_info _) ((K.get _ _ _ _ mS).range) ?_
  simp only [aP, lI, l0, lS]
  refine callL rfl (fun _ => by kernel_rfl) (hblock_any k 0 n hk hn _ (hg.below K.below hg.size)) ?_
  rintro e w1 ⟨rfl, l⟩
  replace K := K.call l
  clear l
  refine ⟨_, rfl, ?_⟩
  simp only [aP, lI, l0, lS]
  refine allocL zu8_64 75 rfl (fun _ => by kernel_rfl) ?_
  simp only [aP, lI, l0, lS]
  refine storesL .u8 64 (hblk k 0 n) w1.heap.size 75 _ _ rfl rfl rfl rfl (room_of (hb_zero _ _ _ rfl).there) (hb_info' _) ?_
  simp only [Act.put]
  have zX := K.size
  replace K := K.fresh .u8 64 (hblk k 0 n) zu8_64 75 (hb_zero _ _ _ rfl).there
  generalize ((w1.alloc (.cells zu8_64 75)).setCells w1.heap.size 0 (row .u8 64 (hblk k 0 n))) = w2 at K ⊢
  generalize w1.heap.size = X at *
  show Exit.then _ _ _ _ _
  go_upto_region 2 with fail
  refine wp_region_list ?_
  refine pureL (.slice (some ⟨X, 0, none⟩) 32 64) rfl (fun _ => by kernel_rfl) ?_
  simp only [aP, lI, l0, lS]
  refine pureL (.pointer (some ⟨X, 0, none⟩)) rfl (fun _ => by kernel_rfl) ?_
  simp only [aP, lI, l0, lS]
  refine rowKL .u8 32 (hblk k 0 n) X 0 38 _ _ rfl rfl rfl Tryz.underlying38 rfl (key_info _) ((K.get _ _ _ _ mS).head 32 (by decide)) ?_
  simp only [aP, lI, l0, lS]
  have hz' := (K.room _ mS).1
  refine storesL .u8 32 (hblk k 0 n) (w.heap.size + 1 + 1) 38 _ _ rfl rfl rfl rfl (room_of hz') (key_info' _) ?_
  simp only [Act.put]
  have hB := (K.fill _ _ mS (row .u8 32 (hblk k 0 n))).below
  clear K
  generalize hGe : hblk k 0 n = G at *
  show Exit.then _ _ _ _ _
  go_wp2
  exact bodyPost_ret (v := (.agg (row .u8 32 (G)).toArray)) (results_row Tryz.results53 rfl (Has.all hz' .u8 G).range Tryz.underlying38 rfl (key_info G)) rfl ⟨by first | rfl | rw [hGe] | (rw [← hGe]; done), hB⟩
theorem filled_any (sp : Option Addr) (len cap : Nat) (hlen : len ≤ 140737488351232) (hcap : len ≤ cap) (z : Nat → Int) (w : World) (hs : Src w sp len z) :
    Calls Tryz.prog 54 #[.slice sp len cap] w fun e w' => ∃ sp' cap', e = .returned (.slice sp' (up16 len) cap') ∧ (up16 len ≤ cap' ∧ (sp' = none → cap' = 0) ∧ Src w' sp' (up16 len) (padz len z)) ∧ Below w.heap.size w w' := by
  have hu : up16 len = len + (16 - len % 16) % 16 := by unfold up16; omega
  obtain ⟨q, hq1, hq2⟩ := cut_full (P := Tryz.prog) (t := 28) (by kernel_rfl) (fun _ => by kernel_rfl) sp len cap hcap
  obtain ⟨p, c, w1, hr, hc, hp, hB, hn⟩ := run_append_full (P := Tryz.prog) (w := w) (ty := 28) Tryz.underlying28 Tryz.underlying3 one8 q len z (hq2 w z hs) ((16 - len % 16) % 16) (by omega) (by omega)
  rw [hu]
  go_enter Tryz.func54, Tryz.ntmps54
  go_upto_region 1 with fail
  refine wp_region_list ?_
  refine pureL (.slice sp len cap) rfl (fun _ => by kernel_rfl) ?_
  simp only [aP, lI, l0, lS]
  refine pureL (.slice sp len cap) rfl (fun _ => by kernel_rfl) ?_
  simp only [aP, lI, l0, lS]
  refine pureL (.int .i64 (len : Int)) rfl (fun w => lenS _ 28 5 (sp) (len) (cap) rfl Tryz.underlying28 rfl w) ?_
  simp only [aP, lI, l0, lS]
  refine pureL (.slice sp len cap) rfl (fun _ => by kernel_rfl) ?_
  simp only [aP, lI, l0, lS]
  refine pureL (.int .i64 (len : Int)) rfl (fun w => lenS _ 28 5 (sp) (len) (cap) rfl Tryz.underlying28 rfl w) ?_
  simp only [aP, lI, l0, lS]
  refine pureL (.slice q len len) rfl (fun w => cutHMop _ _ _ _ _ _ _ _ rfl rfl rfl rfl (hq1 w)) ?_
  simp only [aP, lI, l0, lS]
  refine pureL (.slice sp len cap) rfl (fun _ => by kernel_rfl) ?_
  simp only [aP, lI, l0, lS]
  refine pureL (.int .i64 (len : Int)) rfl (fun w => lenS _ 28 5 (sp) (len) (cap) rfl Tryz.underlying28 rfl w) ?_
  simp only [aP, lI, l0, lS]
  refine pureL (.int .i64 ((len % 16 : Nat) : Int)) rfl (fun w => remI .i64 _ _ _ _ _ _ _ rfl rfl rfl (by decide) (by rw [Int.tmod_eq_emod_of_nonneg (by omega)]; omega) w) ?_
  simp only [aP, lI, l0, lS]
  refine pureL (.int .i64 ((16 - len % 16 : Nat) : Int)) rfl (fun w => subI .i64 _ _ _ _ _ _ _ rfl rfl rfl (by rw [IntKind.wrap_i64]; omega) w) ?_
  simp only [aP, lI, l0, lS]
  refine pureL (.int .i64 (((16 - len % 16) % 16 : Nat) : Int)) rfl (fun w => remI .i64 _ _ _ _ _ _ _ rfl rfl rfl (by decide) (by rw [Int.tmod_eq_emod_of_nonneg (by omega)]; omega) w) ?_
  simp only [aP, lI, l0, lS]
  refine actL (.slice p (len + (16 - len % 16) % 16) c) rfl (appendNOp _ _ 28 3 _ _ _ rfl rfl rfl hr) ?_
  simp only [aP, lI, l0, lS]
  refine pureL (.slice p (len + (16 - len % 16) % 16) c) rfl (fun _ => by kernel_rfl) ?_
  simp only [aP, lI, l0, lS]
  show Exit.then _ _ _ _ _
  clear hr hq1 hq2 hu
  go_wp2
  go_ret
  exact ⟨p, c, rfl, ⟨hc, hn, hp⟩, hB⟩
theorem tagOf_any (k n : Nat → Int) (hk : In 256 32 k) (hn : In 256 12 n) (bp : Option Addr) (bl bc : Nat) (hbl : bl ≤ 140737488351232) (hbc : bl ≤ bc) (b : Nat → Int) (hb : In 256 bl b) (sp : Option Addr) (len cap : Nat) (hlen : len ≤ 140737488351232) (hcap : len ≤ cap) (z : Nat → Int) (hz : In 256 len z) (w : World) (hg : AGlob w) (hsb : Src w bp bl b) (hs : Src w sp len z) :
    Calls Tryz.prog 40 #[(.agg (row .u8 32 (k)).toArray), (.agg (row .u8 12 (n)).toArray), .slice bp bl bc, .slice sp len cap] w fun e w' => e = .returned (.agg (row .u8 16 (atag k n bl b len z)).toArray) ∧ Below w.heap.size w w' := by
  have K := Kr.init w
  replace K := K.box .u8 32 k 38 (w.heap.size) rfl
  replace K := K.box .u8 12 n 53 (w.heap.size + 1) (by simp)
  replace K := K.make 16 zu8_16 65 (w.heap.size + 1 + 1) (by simp) (tag_zero _ _ _ (by simp)).there
  replace K := K.boxO .u8 16 (fun _ => 0) (.cells zu8_16 64) (w.heap.size + 1 + 1 + 1) (by simp) (tag_zero _ _ _ (by simp))
  go_enter Tryz.func40, Tryz.ntmps40
  go_upto_region 2 with fail
  generalize ((((w.alloc (.cells (row .u8 32 k).toArray 38)).alloc (.cells (row .u8 12 n).toArray 53)).alloc (.cells zu8_16 65)).alloc (.cells zu8_16 64)) = w0 at K ⊢
  refine wp_region_list ?_
  refine pureL (.slice (some ⟨w.heap.size + 1 + 1 + 1, 0, none⟩) 16 16) rfl (fun _ => by kernel_rfl) ?_
  simp only [aP, lI, l0, lS]
  refine pureL (.slice bp bl bc) rfl (fun _ => by kernel_rfl) ?_
  simp only [aP, lI, l0, lS]
  refine pureL (.int .i64 (bl : Int)) rfl (fun w => lenS _ 28 5 (bp) (bl) (bc) rfl Tryz.underlying28 rfl w) ?_
  simp only [aP, lI, l0, lS]
  refine pureL (.int .u64 (bl : Int)) rfl (fun w => convI .i64 .u64 _ _ _ _ _ rfl (by kernel_rfl) Tryz.underlying46 (by kernel_rfl) rfl (by rw [IntKind.wrap_u64]; omega) w) ?_
  simp only [aP, lI, l0, lS]
  refine callL rfl (fun _ => by kernel_rfl) (put16_any (w.heap.size + 1 + 1 + 1) 0 16 16 _ (bl : Int) (by decide) _ (K.get _ _ _ _ mS)) ?_
  rintro e w1 ⟨rfl, rfl⟩
  replace K := K.part [(w.heap.size + 1, .u8, 12, n), (w.heap.size, .u8, 32, k)] (w.heap.size + 1 + 1 + 1) .u8 16 _ 0 8 (by decide) (byt (bl : Int)) mS (fun p hp => by rcases List.mem_cons.1 hp with rfl | hp; exact (mT _ mS); obtain rfl := List.mem_singleton.1 hp; exact (mT _ (mT _ mS))) (fun p hp => by rcases List.mem_cons.1 hp with rfl | hp; simp only; omega; obtain rfl := List.mem_singleton.1 hp; simp only; omega) (by omega)
  generalize w0.setCells (w.heap.size + 1 + 1 + 1) 0 (row .u8 8 (byt (bl : Int))) = w1 at K ⊢
  refine ⟨_, rfl, ?_⟩
  simp only [aP, lI, l0, lS]
  show Exit.then _ _ _ _ _
  go_upto_region 3 with fail
  refine wp_region_list ?_
  refine pureL (.slice (some ⟨w.heap.size + 1 + 1 + 1, 8, none⟩) 8 8) rfl (fun _ => by kernel_rfl) ?_
  simp only [aP, lI, l0, lS]
  refine pureL (.slice sp len cap) rfl (fun _ => by kernel_rfl) ?_
  simp only [aP, lI, l0, lS]
  refine pureL (.int .i64 (len : Int)) rfl (fun w => lenS _ 28 5 (sp) (len) (cap) rfl Tryz.underlying28 rfl w) ?_
  simp only [aP, lI, l0, lS]
  refine pureL (.int .u64 (len : Int)) rfl (fun w => convI .i64 .u64 _ _ _ _ _ rfl (by kernel_rfl) Tryz.underlying46 (by kernel_rfl) rfl (by rw [IntKind.wrap_u64]; omega) w) ?_
  simp only [aP, lI, l0, lS]
  refine callL rfl (fun _ => by kernel_rfl) (put_any (w.heap.size + 1 + 1 + 1) 8 16 8 _ (len : Int) (by decide) _ (K.get _ _ _ _ mS)) ?_
  rintro e w2 ⟨rfl, rfl⟩
  replace K := K.part [(w.heap.size + 1, .u8, 12, n), (w.heap.size, .u8, 32, k)] (w.heap.size + 1 + 1 + 1) .u8 16 _ 8 8 (by decide) (byt (len : Int)) mS (fun p hp => by rcases List.mem_cons.1 hp with rfl | hp; exact (mT _ mS); obtain rfl := List.mem_singleton.1 hp; exact (mT _ (mT _ mS))) (fun p hp => by rcases List.mem_cons.1 hp with rfl | hp; simp only; omega; obtain rfl := List.mem_singleton.1 hp; simp only; omega) (by omega)
  generalize w1.setCells (w.heap.size + 1 + 1 + 1) 8 (row .u8 8 (byt (len : Int))) = w2 at K ⊢
  replace K := K.headC (app (dig bl) 8 (dig len)) (fun j hj => by
    unfold over app
    by_cases e : j < 8
    · rw [if_neg (by omega), if_pos (by omega), if_pos e, Nat.sub_zero]; exact byt_dig bl j e
    · rw [if_pos (by omega), if_neg e]; exact byt_dig len (j - 8) (by omega))
  refine ⟨_, rfl, ?_⟩
  simp only [aP, lI, l0, lS]
  show Exit.then _ _ _ _ _
  go_upto_region 4 with fail
  refine wp_region_held_drew (S := fun w' => Kr w (w.heap.size + 1 + 1 + 1 + 1) [(w.heap.size + 1 + 1 + 1, .u8, 16, (app (dig bl) 8 (dig len))), (w.heap.size + 1, .u8, 12, n), (w.heap.size, .u8, 32, k)] [(w.heap.size + 1 + 1, 16)] w') (by kernel_rfl) K.drew ?_
  clear K
  intro K
  refine rowKH (i := 0) (some 20) rfl .u8 32 (k) (w.heap.size) 0 38 _ _ rfl rfl rfl rfl (by kernel_rfl) (by kernel_rfl) (by kernel_rfl) (fun _ _ _ h => h) Tryz.underlying38 rfl (key_info _) K (fun _ h => (h.get _ _ _ _ (mT _ (mT _ mS))).range) ?_
  simp only [aP, lI, l0, lS]
  refine rowKH (i := 1) (some 21) rfl .u8 12 (n) (w.heap.size + 1) 0 53 _ _ rfl rfl rfl rfl (by kernel_rfl) (by kernel_rfl) (by kernel_rfl) (fun _ _ _ h => h) Tryz.underlying53 rfl (hn_info _) K (fun _ h => (h.get _ _ _ _ (mT _ mS)).range) ?_
  simp only [aP, lI, l0, lS]
  refine pureHg (i := 3) (some 23) rfl (.slice bp bl bc) rfl rfl (fun _ => by kernel_rfl) K ?_
  simp only [aP, lI, l0, lS]
  refine pureHg (i := 5) (some 25) rfl (.slice sp len cap) rfl rfl (fun _ => by kernel_rfl) K ?_
  simp only [aP, lI, l0, lS]
  refine pureHg (i := 7) (some 27) rfl (.slice (some ⟨w.heap.size + 1 + 1 + 1, 0, none⟩) 16 16) rfl rfl (fun _ => by kernel_rfl) K ?_
  simp only [aP, lI, l0, lS]
  refine callH (i := 2) (some 22) rfl (by kernel_rfl) rfl rfl (fun _ => by kernel_rfl) (once_any k n hk hn _ (hg.h.below K.below hg.size)) ?_
  rintro e w3 ⟨rfl, l⟩
  replace K := K.call l
  clear l
  refine ⟨_, rfl, K, ?_⟩
  simp only [aP, lI, l0, lS]
  refine callH (i := 4) (some 24) rfl (by kernel_rfl) rfl rfl (fun _ => by kernel_rfl) (filled_any bp bl bc hbl hbc b _ (hsb.below K.below (Nat.le_refl _))) ?_
  rintro e w4 ⟨p1, c1, rfl, ⟨_, n1, S1⟩, l⟩
  replace K := K.call l
  clear l
  refine ⟨_, rfl, K, ?_⟩
  simp only [aP, lI, l0, lS]
  refine callH (i := 6) (some 26) rfl (by kernel_rfl) rfl rfl (fun _ => by kernel_rfl) (filled_any sp len cap hlen hcap z _ (hs.below K.below (Nat.le_refl _))) ?_
  rintro e w5 ⟨p2, c2, rfl, ⟨_, n2, S2⟩, l⟩
  replace K := K.call l
  replace S1 := S1.below l (Nat.le_refl _)
  clear l
  refine ⟨_, rfl, K, ?_⟩
  simp only [aP, lI, l0, lS]
  have HC := catIn3 w5.heap.size p1 p2 (some ⟨w.heap.size + 1 + 1 + 1, 0, none⟩) (up16 bl) (up16 len) 16 c1 c2 16 (padz bl b) (padz len z) (app (dig bl) 8 (dig len)) 28 rfl S1 S2 (K.get _ _ _ _ mS).src0 n1 n2 (fun e => by cases e)
  replace K := K.call ((Below.refl w5.heap.size w5).alloc (Nat.le_refl _) (.cells #[.slice p1 (up16 bl) c1, .slice p2 (up16 len) c2, .slice (some ⟨w.heap.size + 1 + 1 + 1, 0, none⟩) 16 16] 28))
  refine actH (i := 8) (w' := w5.alloc (.cells #[.slice p1 (up16 bl) c1, .slice p2 (up16 len) c2, .slice (some ⟨w.heap.size + 1 + 1 + 1, 0, none⟩) 16 16] 28)) (some 28) rfl (.slice (some ⟨w5.heap.size, 0, none⟩) 3 3) (by kernel_rfl) rfl rfl (by kernel_rfl) K ?_
  simp only [aP, lI, l0, lS]
  generalize (w5.alloc (.cells #[.slice p1 (up16 bl) c1, .slice p2 (up16 len) c2, .slice (some ⟨w.heap.size + 1 + 1 + 1, 0, none⟩) 16 16] 28)) = w6 at K HC ⊢
  generalize w5.heap.size = C at HC ⊢
  clear S1 S2
  have u1 : up16 bl ≤ 140737488351232 := by unfold up16; omega
  have u2 : up16 len ≤ 140737488351232 := by unfold up16; omega
  refine callH (i := 9) (some 29) rfl (by kernel_rfl) rfl rfl (fun _ => by kernel_rfl) (concat_any ⟨C, 0, none⟩ 3 3 _ _ _ _ (by decide) (by rw [tot3]; omega) _ HC) ?_
  rintro e w7 ⟨v, rfl, O, l⟩
  replace K := K.call l
  clear l HC
  rw [tot3] at O
  replace O := O.congr (fun j _ => cat3 bl b len z j)
  obtain ⟨p3, c3, rfl, hc3, S3⟩ := O.bytes
  refine ⟨_, rfl, K, ?_⟩
  simp only [aP, lI, l0, lS]
  have hA : up16 bl + up16 len + 16 = amt bl len := by unfold amt; omega
  rw [hA] at hc3 S3 ⊢
  have hA2 : amt bl len ≤ 281474976710656 := by omega
  clear O hA u1 u2
  refine callH (i := 10) (some 30) rfl (by kernel_rfl) rfl rfl (fun _ => by kernel_rfl) (psum_any (hblk k 0 n) (hblk_in k 0 n 32) p3 (amt bl len) c3 hA2 hc3 _ (amx_in bl b len z hb hz) _ (hg.c.below K.below hg.size) S3) ?_
  rintro e w8 ⟨f, rfl, ⟨hf1, hf2⟩, l⟩
  replace K := K.call l
  clear l S3
  rw [row_congr .u8 16 (tag_is hf1 hf2)]
  clear hf1 hf2
  refine ⟨_, rfl, K, ?_⟩
  simp only [aP, lI, l0, lS]
  have hz' := (K.room _ mS).1
  refine storesH (i := 11) none rfl .u8 16 (atag k n bl b len z) (w.heap.size + 1 + 1) 65 _ _ (by kernel_rfl) rfl rfl rfl rfl rfl (room_of hz') (tag_info' _) (K.fill _ _ mS _) ?_
  simp only [Act.put]
  refine wpAnyH_done (by kernel_rfl) ?_ _
  have hB := (K.fill _ _ mS (row .u8 16 (atag k n bl b len z))).below
  clear K
  generalize hGe : atag k n bl b len z = G at *
  go_wp2
  exact bodyPost_ret (v := (.agg (row .u8 16 (G)).toArray)) (results_row Tryz.results40 rfl (Has.all hz' .u8 G).range Tryz.underlying65 rfl (tag_info G)) rfl ⟨by first | rfl | rw [hGe] | (rw [← hGe]; done), hB⟩
def NewF (w : World) (base n : Nat) (f : Nat → Int) (v : Value) : Prop := ∃ sp cap, v = .slice sp n cap ∧ n ≤ cap ∧ (sp = none → cap = 0) ∧ Src w sp n f ∧ ∀ a, sp = some a → base ≤ a.block ∧ a.block < w.heap.size
theorem NewF.nil (w : World) (base : Nat) (f : Nat → Int) : NewF w base 0 f (.slice none 0 0) := ⟨none, 0, rfl, Nat.le_refl _, fun _ => rfl, fun j hj => absurd hj (Nat.not_lt_zero j), fun _ h => by cases h⟩
theorem NewF.src {w : World} {base n : Nat} {f : Nat → Int} {sp : Option Addr} {cap : Nat} (h : NewF w base n f (.slice sp n cap)) : Src w sp n f := by
  obtain ⟨sp', cap', hv, _, _, hs, _⟩ := h
  injection hv with h1 _ _
  subst h1
  exact hs
theorem NewF.of_own {w : World} {base n : Nat} {f : Nat → Int} {v : Value} (h : Own w base 5 .u8 n f v) : NewF w base n f v := by
  obtain ⟨sp, cap, rfl, hc, hs⟩ := h.bytes
  exact ⟨sp, cap, rfl, hc, h.nilCap, hs, fun a e => by subst e; exact World.ownsRow.lt h a.block rfl⟩
theorem NewF.congr {w : World} {base n : Nat} {f g : Nat → Int} {v : Value} (h : NewF w base n f v) (he : ∀ j, j < n → f j = g j) : NewF w base n g v := by
  obtain ⟨sp, cap, hv, hc, hn, hs, ha⟩ := h
  exact ⟨sp, cap, hv, hc, hn, fun j hj => by rw [← he j hj]; exact hs j hj, ha⟩
def NewL (w : World) (base : Nat) (l : List Int) (v : Value) : Prop := NewF w base l.length (bl l) v
theorem NewF.off {w w' : World} {base n : Nat} {f : Nat → Int} {v : Value} {X : List Nat} (h : NewF w base n f v) (o : Off X w w') (hX : ∀ b ∈ X, b < base) : NewF w' base n f v := by
  obtain ⟨sp, cap, hv, hc, hn, hs, ha⟩ := h
  have hsz := o.size
  refine ⟨sp, cap, hv, hc, hn, fun j hj => ?_, fun a e => ⟨(ha a e).1, by have := (ha a e).2; omega⟩⟩
  obtain ⟨p, hp, hcell⟩ := hs j hj
  exact ⟨p, hp, o.cell hcell (by rw [add_block]; exact fun hm => by have := hX _ hm; have := (ha p hp).1; omega)⟩
theorem NewF.below {w w' : World} {base n : Nat} {f : Nat → Int} {v : Value} (h : NewF w base n f v) (l : Below w.heap.size w w') : NewF w' base n f v := h.off (X := []) (Off.of_below l) (fun _ hb => by cases hb)
theorem NewF.lower {w : World} {base base' n : Nat} {f : Nat → Int} {v : Value} (h : NewF w base n f v) (hb : base' ≤ base) : NewF w base' n f v := by
  obtain ⟨sp, cap, hv, hc, hn, hs, ha⟩ := h
  exact ⟨sp, cap, hv, hc, hn, hs, fun a e => ⟨Nat.le_trans hb (ha a e).1, (ha a e).2⟩⟩
theorem NewF.srcA {w : World} {base n : Nat} {f : Nat → Int} {sp : Option Addr} {cap : Nat} {X : List Nat} (h : NewF w base n f (.slice sp n cap)) (hX : ∀ b ∈ X, b < base) : SrcA X w sp n f := by
  obtain ⟨sp', cap', hv, _, _, hs, ha⟩ := h
  injection hv with h1 _ _
  subst h1
  exact ⟨hs, fun a e _ hm => by have := hX _ hm; have := (ha a e).1; omega⟩
end Go.Proofs.YtgfpflcoknpbdaaGreatDoor
