/- Texts of LawSymmetricAgrees, joined. -/
import Derived.Test.YtgfpflcoknpbdaaDoorP1SymmetricAgrees
import Derived.Test.YtgfpflcoknpbdaaDoorP9SymmetricAgrees
set_option maxRecDepth 20000
set_option maxHeartbeats 64000000
namespace Go.Proofs.YtgfpflcoknpbdaaDoor
open Go.RowKit
theorem law_SymmetricAgrees (pcs : Sym → List Value) (hp : SymOK pcs) (sp : Option Addr) (cap : Nat) (ops : List Opv) (w : World) (hg : SGlob w) (hO : OpsAt w sp ops) :
    Calls Tryd.prog 3 #[.slice sp ops.length cap] w fun e w' => e = .returned (.bool true) ∧ Below w.heap.size w w' := by
  have M := Mm.init w
  go_enter Tryd.func3, Tryd.ntmps3
  go_upto_region 0 with fail
  refine wp_region_list ?_
  refine readL (.bool false) rfl (by kernel_rfl) ?_
  simp only [aP, lI, l0, lS]
  first | show Exit.then _ _ _ _ _ | show Exit.inBlock _ _ _ _ _
  go_upto_region 1 with fail
  refine wp_region_list ?_
  have hC : Calls Tryd.prog 5 #[] w (fun e w' => e = .returned (.bool true) ∧ Below w.heap.size w w') := shown12_any pcs hp _ (hg.mm M)
  refine callL rfl (fun _ => by kernel_rfl) (hC) ?_
  rintro e w1 ⟨rfl, l⟩
  replace M := M.call l
  refine ⟨_, rfl, ?_⟩
  clear l hC
  simp only [aP, lI, l0, lS]
  refine readL (.bool true) rfl (by kernel_rfl) ?_
  simp only [aP, lI, l0, lS]
  first | show Exit.then _ _ _ _ _ | show Exit.inBlock _ _ _ _ _
  go_upto_region 2 with fail
  refine wp_region_list ?_
  refine callL rfl (fun _ => by kernel_rfl) (hp.new w _ _ hg M) ?_
  rintro e w2 ⟨B2, rfl, hnew_B2, M', l⟩
  clear M
  have M := M'
  clear M'
  clear l
  refine ⟨_, rfl, ?_⟩
  simp only [aP, lI, l0, lS]
  refine readL (.pointer (some ⟨B2, 0, none⟩)) rfl (by kernel_rfl) ?_
  simp only [aP, lI, l0, lS]
  first | show Exit.then _ _ _ _ _ | show Exit.inBlock _ _ _ _ _
  go_upto_region 3 with fail
  refine wp_region_list ?_
  refine callL rfl (fun _ => by kernel_rfl) (hp.new w _ _ hg M) ?_
  rintro e w3 ⟨B3, rfl, hnew_B3, M', l⟩
  clear M
  have M := M'
  clear M'
  clear l
  refine ⟨_, rfl, ?_⟩
  simp only [aP, lI, l0, lS]
  refine readL (.pointer (some ⟨B3, 0, none⟩)) rfl (by kernel_rfl) ?_
  simp only [aP, lI, l0, lS]
  first | show Exit.then _ _ _ _ _ | show Exit.inBlock _ _ _ _ _
  go_upto_region 4 with fail
  refine wp_region_list ?_
  refine readL (.bool true) rfl (by kernel_rfl) ?_
  simp only [aP, lI, l0, lS]
  refine readL (.bool false) rfl (by kernel_rfl) ?_
  simp only [aP, lI, l0, lS]
  refine readL (.bool false) rfl (by kernel_rfl) ?_
  simp only [aP, lI, l0, lS]
  refine readL (.pointer (some ⟨B2, 0, none⟩)) rfl (by kernel_rfl) ?_
  simp only [aP, lI, l0, lS]
  refine readL (.bool false) rfl (by kernel_rfl) ?_
  simp only [aP, lI, l0, lS]
  refine readL (.bool false) rfl (by kernel_rfl) ?_
  simp only [aP, lI, l0, lS]
  refine readL (.bool false) rfl (by kernel_rfl) ?_
  simp only [aP, lI, l0, lS]
  refine readL (.pointer (some ⟨B3, 0, none⟩)) rfl (by kernel_rfl) ?_
  simp only [aP, lI, l0, lS]
  refine readL (.bool false) rfl (by kernel_rfl) ?_
  simp only [aP, lI, l0, lS]
  refine readL (.bool false) rfl (by kernel_rfl) ?_
  simp only [aP, lI, l0, lS]
  first | show Exit.then _ _ _ _ _ | show Exit.inBlock _ _ _ _ _
  go_upto_region 6 with fail
  refine wp_region_list ?_
  refine readL (.int .i64 0) rfl (by kernel_rfl) ?_
  simp only [aP, lI, l0, lS]
  first | show Exit.then _ _ _ _ _ | show Exit.inBlock _ _ _ _ _
  replace M := M.swap
  have hA : w.heap.size ≤ B2 := (M.rows _ mS).2.1
  have hB : w.heap.size ≤ B3 := (M.rows _ (mT _ mS)).2.1
  have HI := show Hid _ from M
  clear M
  go_wp2
  go_loopw [6] (fun i w' => ∃ j : Nat, j ≤ 12 ∧ j ≤ ops.length ∧ i = .int .i64 (j : Int) ∧ ∃ s : Sym, SymW s ∧ s.n ≤ j ∧ Mm w [(B2, pcs s), (B3, pcs s)] w') (fun i _ => 12 - (intOf i).toNat)
  case atStart => exact ⟨0, Nat.zero_le _, Nat.zero_le _, rfl, snew, snew_w, Nat.le_refl _, HI.out⟩
  case round =>
    clear HI
    obtain ⟨j, hj12, hjl, rfl, s, hsw, hsn, M⟩ := hrel
    by_cases hlt : j < ops.length ∧ j < 12
    · obtain ⟨ad, bp, bc, rfl, hop⟩ := hO j hlt.1
      generalize opk ops j = k at hop
      generalize opb ops j = b at hop
      go_upto_region 7 with fail
      refine wp_region_list ?_
      refine readL (.int .i64 (j : Int)) rfl (by kernel_rfl) ?_
      simp only [aP, lI, l0, lS]
      refine readL (.slice (some ad) ops.length cap) rfl (by kernel_rfl) ?_
      simp only [aP, lI, l0, lS]
      refine readL (.int .i64 ((ops.length : Nat) : Int)) rfl (lenS _ 22 29 (some ad) ops.length cap rfl Tryd.underlying22 rfl _) ?_
      simp only [aP, lI, l0, lS]
      refine readL (.bool true) rfl (lssI .i64 _ _ _ _ _ _ rfl rfl rfl true (decide_eq_true (by omega)) _) ?_
      simp only [aP, lI, l0, lS]
      refine readL (.bool true) rfl (by kernel_rfl) ?_
      simp only [aP, lI, l0, lS]
      refine readL (.int .i64 (j : Int)) rfl (by kernel_rfl) ?_
      simp only [aP, lI, l0, lS]
      refine readL (.bool true) rfl (lssI .i64 _ _ _ _ _ _ rfl rfl rfl true (decide_eq_true (by omega)) _) ?_
      simp only [aP, lI, l0, lS]
      refine readL (.bool true) rfl (by kernel_rfl) ?_
      simp only [aP, lI, l0, lS]
      first | show Exit.then _ _ _ _ _ | show Exit.inBlock _ _ _ _ _
      go_upto_region 9 with fail
      refine wp_region_list ?_
      refine readL (.slice (some ad) ops.length cap) rfl (by kernel_rfl) ?_
      simp only [aP, lI, l0, lS]
      refine readL (.int .i64 (j : Int)) rfl (by kernel_rfl) ?_
      simp only [aP, lI, l0, lS]
      refine readL (.pointer (some (ad.add (j * 2)))) rfl (opIdx 22 29 2 ops.length cap ad j _ _ Tryd.underlying22 (fun _ => by kernel_rfl) hlt.1 rfl rfl rfl _) ?_
      simp only [aP, lI, l0, lS]
      refine readL (.pointer (some (ad.add (j * 2)))) rfl (by kernel_rfl) ?_
      simp only [aP, lI, l0, lS]
      refine readL (.int .i64 k) rfl (load1 3 _ (ad.add (j * 2)) _ rfl rfl (fun _ => by kernel_rfl) ((M.below.cell (World.block_lt_of_cell? w _ hop.kind)).trans hop.kind)) ?_
      simp only [aP, lI, l0, lS]
      have hC : Calls Tryd.prog 7 #[.int .i64 k, .int .i64 4] wr (fun e w' => e = .returned (.int .i64 ((kdn k 4 : Nat) : Int)) ∧ Below wr.heap.size wr w') := kind12_any k 4 (by decide) hop.low _
      refine callL rfl (fun _ => by kernel_rfl) (hC) ?_
      rintro e w4 ⟨rfl, l⟩
      replace M := M.call l
      refine ⟨_, rfl, ?_⟩
      clear l hC
      simp only [aP, lI, l0, lS]
      first | show Exit.then _ _ _ _ _ | show Exit.inBlock _ _ _ _ _
      have hkl := kdn_lt k 4 (by decide)
      obtain hkd | hkd | hkd | hkd : kdn k 4 = 0 ∨ kdn k 4 = 1 ∨ kdn k 4 = 2 ∨ kdn k 4 = 3 := by omega
      · go_upto_region 10 with fail
        refine wp_region_list ?_
        refine readL (.bool true) rfl (eqlI .i64 _ _ _ _ _ _ rfl rfl rfl true (by rw [hkd]; rfl) _) ?_
        simp only [aP, lI, l0, lS]
        refine readL (.bool true) rfl (by kernel_rfl) ?_
        simp only [aP, lI, l0, lS]
        first | show Exit.then _ _ _ _ _ | show Exit.inBlock _ _ _ _ _
        go_upto_region 11 with fail
        refine wp_region_list ?_
        refine readL (.pointer (some ⟨B2, 0, none⟩)) rfl (by kernel_rfl) ?_
        simp only [aP, lI, l0, lS]
        refine readL (.slice (some ad) ops.length cap) rfl (by kernel_rfl) ?_
        simp only [aP, lI, l0, lS]
        refine readL (.int .i64 (j : Int)) rfl (by kernel_rfl) ?_
        simp only [aP, lI, l0, lS]
        refine readL (.pointer (some (ad.add (j * 2)))) rfl (opIdx 22 29 2 ops.length cap ad j _ _ Tryd.underlying22 (fun _ => by kernel_rfl) hlt.1 rfl rfl rfl _) ?_
        simp only [aP, lI, l0, lS]
        refine readL (.pointer (some ((ad.add (j * 2)).add 1))) rfl (by kernel_rfl) ?_
        simp only [aP, lI, l0, lS]
        refine readL (.slice bp b.length bc) rfl (load1 27 _ ((ad.add (j * 2)).add 1) _ rfl rfl (fun _ => by kernel_rfl) ((M.below.cell (World.block_lt_of_cell? w _ hop.cell)).trans hop.cell)) ?_
        simp only [aP, lI, l0, lS]
        refine callL rfl (fun _ => by kernel_rfl) (hp.mix w _ B2 _ s hg hsw bp bc b (Nat.le_trans hop.len (by decide)) hop.le hop.nil hop.byts M ((SrcA.of_old hop.src (X := [B2]) (fun b hb => by obtain rfl := List.mem_singleton.1 hb; assumption)).off (Off.of_below M.below))) ?_
        rintro e w5 ⟨rfl, M', o1⟩
        clear M
        have M := M'
        clear M'
        clear o1
        refine ⟨_, rfl, ?_⟩
        simp only [aP, lI, l0, lS]
        first | show Exit.then _ _ _ _ _ | show Exit.inBlock _ _ _ _ _
        go_upto_region 12 with fail
        refine wp_region_list ?_
        refine readL (.pointer (some ⟨B3, 0, none⟩)) rfl (by kernel_rfl) ?_
        simp only [aP, lI, l0, lS]
        refine readL (.slice (some ad) ops.length cap) rfl (by kernel_rfl) ?_
        simp only [aP, lI, l0, lS]
        refine readL (.int .i64 (j : Int)) rfl (by kernel_rfl) ?_
        simp only [aP, lI, l0, lS]
        refine readL (.pointer (some (ad.add (j * 2)))) rfl (opIdx 22 29 2 ops.length cap ad j _ _ Tryd.underlying22 (fun _ => by kernel_rfl) hlt.1 rfl rfl rfl _) ?_
        simp only [aP, lI, l0, lS]
        refine readL (.pointer (some ((ad.add (j * 2)).add 1))) rfl (by kernel_rfl) ?_
        simp only [aP, lI, l0, lS]
        refine readL (.slice bp b.length bc) rfl (load1 27 _ ((ad.add (j * 2)).add 1) _ rfl rfl (fun _ => by kernel_rfl) ((M.below.cell (World.block_lt_of_cell? w _ hop.cell)).trans hop.cell)) ?_
        simp only [aP, lI, l0, lS]
        replace M := M.swap
        refine callL rfl (fun _ => by kernel_rfl) (hp.mix w _ B3 _ s hg hsw bp bc b (Nat.le_trans hop.len (by decide)) hop.le hop.nil hop.byts M ((SrcA.of_old hop.src (X := [B3]) (fun b hb => by obtain rfl := List.mem_singleton.1 hb; assumption)).off (Off.of_below M.below))) ?_
        rintro e w6 ⟨rfl, M', o1⟩
        clear M
        have M := M'
        clear M'
        clear o1
        refine ⟨_, rfl, ?_⟩
        simp only [aP, lI, l0, lS]
        first | show Exit.then _ _ _ _ _ | show Exit.inBlock _ _ _ _ _
        replace M := M.swap
        have HS := show Hid _ from M
        clear M 
        go_wp2
        go_roundw
        case rel => first | exact ⟨j + 1, by omega, by omega, by go_num, smix s b, smix_w hsw _, (by show s.n ≤ j + 1; omega), HS.out⟩ | ((repeat apply Exists.intro); refine ⟨⟨j + 1, by omega, by omega, ?_, smix s b, smix_w hsw _, (by show s.n ≤ j + 1; omega), HS.out⟩, rfl⟩ <;> first | rfl | go_num)
        case measure => simp [intOf]; omega
      · go_upto_region 10 with fail
        refine wp_region_list ?_
        refine readL (.bool false) rfl (eqlI .i64 _ _ _ _ _ _ rfl rfl rfl false (by rw [hkd]; rfl) _) ?_
        simp only [aP, lI, l0, lS]
        refine readL (.bool false) rfl (by kernel_rfl) ?_
        simp only [aP, lI, l0, lS]
        first | show Exit.then _ _ _ _ _ | show Exit.inBlock _ _ _ _ _
        go_upto_region 13 with fail
        refine wp_region_list ?_
        refine readL (.bool true) rfl (eqlI .i64 _ _ _ _ _ _ rfl rfl rfl true (by rw [hkd]; rfl) _) ?_
        simp only [aP, lI, l0, lS]
        refine readL (.bool true) rfl (by kernel_rfl) ?_
        simp only [aP, lI, l0, lS]
        first | show Exit.then _ _ _ _ _ | show Exit.inBlock _ _ _ _ _
        go_upto_region 14 with fail
        refine wp_region_list ?_
        refine readL (.pointer (some ⟨B2, 0, none⟩)) rfl (by kernel_rfl) ?_
        simp only [aP, lI, l0, lS]
        refine readL (.slice (some ad) ops.length cap) rfl (by kernel_rfl) ?_
        simp only [aP, lI, l0, lS]
        refine readL (.int .i64 (j : Int)) rfl (by kernel_rfl) ?_
        simp only [aP, lI, l0, lS]
        refine readL (.pointer (some (ad.add (j * 2)))) rfl (opIdx 22 29 2 ops.length cap ad j _ _ Tryd.underlying22 (fun _ => by kernel_rfl) hlt.1 rfl rfl rfl _) ?_
        simp only [aP, lI, l0, lS]
        refine readL (.pointer (some ((ad.add (j * 2)).add 1))) rfl (by kernel_rfl) ?_
        simp only [aP, lI, l0, lS]
        refine readL (.slice bp b.length bc) rfl (load1 27 _ ((ad.add (j * 2)).add 1) _ rfl rfl (fun _ => by kernel_rfl) ((M.below.cell (World.block_lt_of_cell? w _ hop.cell)).trans hop.cell)) ?_
        simp only [aP, lI, l0, lS]
        refine callL rfl (fun _ => by kernel_rfl) (hp.key w _ B2 _ s hg hsw bp bc b (Nat.le_trans hop.len (by decide)) hop.le hop.nil hop.byts M ((SrcA.of_old hop.src (X := [B2]) (fun b hb => by obtain rfl := List.mem_singleton.1 hb; assumption)).off (Off.of_below M.below))) ?_
        rintro e w7 ⟨rfl, M', o1⟩
        clear M
        have M := M'
        clear M'
        clear o1
        refine ⟨_, rfl, ?_⟩
        simp only [aP, lI, l0, lS]
        first | show Exit.then _ _ _ _ _ | show Exit.inBlock _ _ _ _ _
        go_upto_region 15 with fail
        refine wp_region_list ?_
        refine readL (.pointer (some ⟨B3, 0, none⟩)) rfl (by kernel_rfl) ?_
        simp only [aP, lI, l0, lS]
        refine readL (.slice (some ad) ops.length cap) rfl (by kernel_rfl) ?_
        simp only [aP, lI, l0, lS]
        refine readL (.int .i64 (j : Int)) rfl (by kernel_rfl) ?_
        simp only [aP, lI, l0, lS]
        refine readL (.pointer (some (ad.add (j * 2)))) rfl (opIdx 22 29 2 ops.length cap ad j _ _ Tryd.underlying22 (fun _ => by kernel_rfl) hlt.1 rfl rfl rfl _) ?_
        simp only [aP, lI, l0, lS]
        refine readL (.pointer (some ((ad.add (j * 2)).add 1))) rfl (by kernel_rfl) ?_
        simp only [aP, lI, l0, lS]
        refine readL (.slice bp b.length bc) rfl (load1 27 _ ((ad.add (j * 2)).add 1) _ rfl rfl (fun _ => by kernel_rfl) ((M.below.cell (World.block_lt_of_cell? w _ hop.cell)).trans hop.cell)) ?_
        simp only [aP, lI, l0, lS]
        replace M := M.swap
        refine callL rfl (fun _ => by kernel_rfl) (hp.key w _ B3 _ s hg hsw bp bc b (Nat.le_trans hop.len (by decide)) hop.le hop.nil hop.byts M ((SrcA.of_old hop.src (X := [B3]) (fun b hb => by obtain rfl := List.mem_singleton.1 hb; assumption)).off (Off.of_below M.below))) ?_
        rintro e w8 ⟨rfl, M', o1⟩
        clear M
        have M := M'
        clear M'
        clear o1
        refine ⟨_, rfl, ?_⟩
        simp only [aP, lI, l0, lS]
        first | show Exit.then _ _ _ _ _ | show Exit.inBlock _ _ _ _ _
        replace M := M.swap
        have HS := show Hid _ from M
        clear M 
        go_wp2
        go_roundw
        case rel => first | exact ⟨j + 1, by omega, by omega, by go_num, skey s b, skey_w hsw _, Nat.zero_le _, HS.out⟩ | ((repeat apply Exists.intro); refine ⟨⟨j + 1, by omega, by omega, ?_, skey s b, skey_w hsw _, Nat.zero_le _, HS.out⟩, rfl⟩ <;> first | rfl | go_num)
        case measure => simp [intOf]; omega
      · go_upto_region 10 with fail
        refine wp_region_list ?_
        refine readL (.bool false) rfl (eqlI .i64 _ _ _ _ _ _ rfl rfl rfl false (by rw [hkd]; rfl) _) ?_
        simp only [aP, lI, l0, lS]
        refine readL (.bool false) rfl (by kernel_rfl) ?_
        simp only [aP, lI, l0, lS]
        first | show Exit.then _ _ _ _ _ | show Exit.inBlock _ _ _ _ _
        go_upto_region 13 with fail
        refine wp_region_list ?_
        refine readL (.bool false) rfl (eqlI .i64 _ _ _ _ _ _ rfl rfl rfl false (by rw [hkd]; rfl) _) ?_
        simp only [aP, lI, l0, lS]
        refine readL (.bool false) rfl (by kernel_rfl) ?_
        simp only [aP, lI, l0, lS]
        first | show Exit.then _ _ _ _ _ | show Exit.inBlock _ _ _ _ _
        go_upto_region 16 with fail
        refine wp_region_list ?_
        refine readL (.bool true) rfl (eqlI .i64 _ _ _ _ _ _ rfl rfl rfl true (by rw [hkd]; rfl) _) ?_
        simp only [aP, lI, l0, lS]
        refine readL (.bool true) rfl (by kernel_rfl) ?_
        simp only [aP, lI, l0, lS]
        first | show Exit.then _ _ _ _ _ | show Exit.inBlock _ _ _ _ _
        go_upto_region 17 with fail
        refine wp_region_list ?_
        refine readL (.pointer (some ⟨B3, 0, none⟩)) rfl (by kernel_rfl) ?_
        simp only [aP, lI, l0, lS]
        refine readL (.pointer (some ⟨B2, 0, none⟩)) rfl (by kernel_rfl) ?_
        simp only [aP, lI, l0, lS]
        refine readL (.slice (some ad) ops.length cap) rfl (by kernel_rfl) ?_
        simp only [aP, lI, l0, lS]
        refine readL (.int .i64 (j : Int)) rfl (by kernel_rfl) ?_
        simp only [aP, lI, l0, lS]
        refine readL (.pointer (some (ad.add (j * 2)))) rfl (opIdx 22 29 2 ops.length cap ad j _ _ Tryd.underlying22 (fun _ => by kernel_rfl) hlt.1 rfl rfl rfl _) ?_
        simp only [aP, lI, l0, lS]
        refine readL (.pointer (some ((ad.add (j * 2)).add 1))) rfl (by kernel_rfl) ?_
        simp only [aP, lI, l0, lS]
        refine readL (.slice bp b.length bc) rfl (load1 27 _ ((ad.add (j * 2)).add 1) _ rfl rfl (fun _ => by kernel_rfl) ((M.below.cell (World.block_lt_of_cell? w _ hop.cell)).trans hop.cell)) ?_
        simp only [aP, lI, l0, lS]
        have hlt_O_9_B2 := M.lt mS
        have hlt_O_9_B3 := M.lt (mT _ mS)
        refine callL rfl (fun _ => by kernel_rfl) (hp.sel w _ B2 _ s hg hsw (by omega) bp bc b (Nat.le_trans hop.len (by decide)) hop.le hop.nil hop.byts M ((SrcA.of_old hop.src (X := [B2]) (fun b hb => by obtain rfl := List.mem_singleton.1 hb; assumption)).off (Off.of_below M.below))) ?_
        rintro e w9 ⟨⟨v_9, rfl, O_9⟩, M', o1⟩
        clear M
        have M := M'
        clear M'
        have hsz_9 := o1.size
        clear o1
        refine ⟨_, rfl, ?_⟩
        obtain ⟨p9, c9, rfl, hcc_9, hnn_9, _, _⟩ := id O_9
        replace O_9 : NewF w9 w4.heap.size (sout s b).length (bl (sout s b)) (.slice p9 (sout s b).length c9) := O_9
        simp only [aP, lI, l0, lS]
        replace M := M.swap
        have hlt_O_10_B3 := M.lt mS
        have hlt_O_10_B2 := M.lt (mT _ mS)
        refine callL rfl (fun _ => by kernel_rfl) (hp.opn w _ B3 _ s hg hsw (by omega) p9 c9 (sout s b) (by rw [sout_length]; have := hop.len; split <;> omega) hcc_9 hnn_9 (sout_byts hop.byts) M (NewF.srcA O_9 (fun b hb => by obtain rfl := List.mem_singleton.1 hb; exact hlt_O_9_B3))) ?_
        rintro e w10 ⟨⟨v_10, rfl, O_10⟩, M', o1⟩
        clear M
        have M := M'
        clear M'
        replace O_9 := NewF.off O_9 o1 (fun b hb => by obtain rfl := List.mem_singleton.1 hb; exact hlt_O_9_B3)
        clear o1
        refine ⟨_, rfl, ?_⟩
        obtain ⟨p10, c10, rfl, hcc_10, hnn_10, _, _⟩ := id O_10
        replace O_10 : NewF w10 w9.heap.size (soT s (sout s b)).length (bl (soT s (sout s b))) (.slice p10 (soT s (sout s b)).length c10) := O_10
        simp only [aP, lI, l0, lS]
        refine readL (.tuple #[.slice p10 ((soT s (sout s b)).length) c10, .int .i64 (soE s (sout s b))]) rfl (by kernel_rfl) ?_
        simp only [aP, lI, l0, lS]
        refine readL (.slice p10 ((soT s (sout s b)).length) c10) rfl (by kernel_rfl) ?_
        simp only [aP, lI, l0, lS]
        refine readL (.int .i64 (soE s (sout s b))) rfl (by kernel_rfl) ?_
        simp only [aP, lI, l0, lS]
        refine readL (.slice p10 ((soT s (sout s b)).length) c10) rfl (by kernel_rfl) ?_
        simp only [aP, lI, l0, lS]
        refine readL (.int .i64 (soE s (sout s b))) rfl (by kernel_rfl) ?_
        simp only [aP, lI, l0, lS]
        first | show Exit.then _ _ _ _ _ | show Exit.inBlock _ _ _ _ _
        rw [sopen_back s b] at M
        go_upto_region 18 with fail
        refine wp_region_held_drew (S := fun w' => ((Mm w [(B3, pcs (sseal s b)), (B2, pcs (sseal s b))] w') ∧ NewF w' w4.heap.size (sout s b).length (bl (sout s b)) (.slice p9 (sout s b).length c9)) ∧ NewF w' w9.heap.size (soT s (sout s b)).length (bl (soT s (sout s b))) (.slice p10 (soT s (sout s b)).length c10)) (by kernel_rfl) ⟨⟨M.drew, (O_9.below (Below.refl _ _).drew)⟩, (O_10.below (Below.refl _ _).drew)⟩ ?_
        clear M O_9 O_10
        intro hS_
        obtain ⟨⟨M, O_9⟩, O_10⟩ := hS_
        generalize w10.drew = w11 at M O_9 O_10 ⊢
        refine readHg (i := 0) (some 90) rfl (.int .i64 (soE s (sout s b))) rfl rfl (fun _ ⟨⟨M, O_9⟩, O_10⟩ => (by kernel_rfl)) ⟨⟨M, O_9⟩, O_10⟩ ?_
        simp only [aP, lI, l0, lS]
        refine readHg (i := 1) (some 91) rfl (.bool false) rfl rfl (fun _ ⟨⟨M, O_9⟩, O_10⟩ => neqI .i64 _ _ _ _ _ _ rfl rfl rfl false (by rw [soE_back]; rfl) _) ⟨⟨M, O_9⟩, O_10⟩ ?_
        simp only [aP, lI, l0, lS]
        refine readHg (i := 2) (some 92) rfl (.bool false) rfl rfl (fun _ ⟨⟨M, O_9⟩, O_10⟩ => (by kernel_rfl)) ⟨⟨M, O_9⟩, O_10⟩ ?_
        simp only [aP, lI, l0, lS]
        refine readHg (i := 3) (some 93) rfl (.slice p10 ((soT s (sout s b)).length) c10) rfl rfl (fun _ ⟨⟨M, O_9⟩, O_10⟩ => (by kernel_rfl)) ⟨⟨M, O_9⟩, O_10⟩ ?_
        simp only [aP, lI, l0, lS]
        refine readHg (i := 4) (some 94) rfl (.string (txt ((soT s (sout s b)).length) (bl (soT s (sout s b))))) rfl rfl (fun _ ⟨⟨M, O_9⟩, O_10⟩ => conv_txt 27 5 9 _ rfl Tryd.underlying27 Tryd.underlying5 Tryd.underlying9 p10 ((soT s (sout s b)).length) c10 (bl (soT s (sout s b))) rfl _ (NewF.src O_10) (fun e => by have h1 := hnn_10 e; have h2 := hcc_10; omega)) ⟨⟨M, O_9⟩, O_10⟩ ?_
        simp only [aP, lI, l0, lS]
        refine readHg (i := 5) (some 95) rfl (.slice (some ad) ops.length cap) rfl rfl (fun _ ⟨⟨M, O_9⟩, O_10⟩ => (by kernel_rfl)) ⟨⟨M, O_9⟩, O_10⟩ ?_
        simp only [aP, lI, l0, lS]
        refine readHg (i := 6) (some 96) rfl (.int .i64 (j : Int)) rfl rfl (fun _ ⟨⟨M, O_9⟩, O_10⟩ => (by kernel_rfl)) ⟨⟨M, O_9⟩, O_10⟩ ?_
        simp only [aP, lI, l0, lS]
        refine readHg (i := 7) (some 97) rfl (.pointer (some (ad.add (j * 2)))) rfl rfl (fun _ ⟨⟨M, O_9⟩, O_10⟩ => opIdx 22 29 2 ops.length cap ad j _ _ Tryd.underlying22 (fun _ => by kernel_rfl) hlt.1 rfl rfl rfl _) ⟨⟨M, O_9⟩, O_10⟩ ?_
        simp only [aP, lI, l0, lS]
        refine readHg (i := 8) (some 98) rfl (.pointer (some ((ad.add (j * 2)).add 1))) rfl rfl (fun _ ⟨⟨M, O_9⟩, O_10⟩ => (by kernel_rfl)) ⟨⟨M, O_9⟩, O_10⟩ ?_
        simp only [aP, lI, l0, lS]
        refine readHg (i := 9) (some 99) rfl (.slice bp b.length bc) rfl rfl (fun _ ⟨⟨M, O_9⟩, O_10⟩ => load1 27 _ ((ad.add (j * 2)).add 1) _ rfl rfl (fun _ => by kernel_rfl) ((M.below.cell (World.block_lt_of_cell? w _ hop.cell)).trans hop.cell)) ⟨⟨M, O_9⟩, O_10⟩ ?_
        simp only [aP, lI, l0, lS]
        refine readHg (i := 10) (some 100) rfl (.string (txt b.length (bl b))) rfl rfl (fun _ ⟨⟨M, O_9⟩, O_10⟩ => conv_txt 27 5 9 _ rfl Tryd.underlying27 Tryd.underlying5 Tryd.underlying9 bp b.length bc (bl b) rfl _ (hop.src.below M.below (Nat.le_refl _)) (fun e => by have h1 := hop.nil e; have h2 := hop.le; omega)) ⟨⟨M, O_9⟩, O_10⟩ ?_
        simp only [aP, lI, l0, lS]
        refine readHg (i := 11) (some 101) rfl (.bool false) rfl rfl (fun _ ⟨⟨M, O_9⟩, O_10⟩ => neqT _ _ _ _ _ _ rfl rfl rfl (by rw [soT_back s b hop.byts]) _) ⟨⟨M, O_9⟩, O_10⟩ ?_
        simp only [aP, lI, l0, lS]
        refine readHg (i := 12) (some 102) rfl (.bool false) rfl rfl (fun _ ⟨⟨M, O_9⟩, O_10⟩ => (by kernel_rfl)) ⟨⟨M, O_9⟩, O_10⟩ ?_
        simp only [aP, lI, l0, lS]
        refine wpAnyH_done (by kernel_rfl) ?_ _
        first | show Exit.then _ _ _ _ _ | show Exit.inBlock _ _ _ _ _
        replace M := M.swap
        have HS := show Hid _ from M
        clear M O_9 O_10
        go_wp2
        go_roundw
        case rel => first | exact ⟨j + 1, by omega, by omega, by go_num, sseal s b, sseal_w hsw _, (Nat.le_trans (sseal_n s b) (by omega)), HS.out⟩ | ((repeat apply Exists.intro); refine ⟨⟨j + 1, by omega, by omega, ?_, sseal s b, sseal_w hsw _, (Nat.le_trans (sseal_n s b) (by omega)), HS.out⟩, rfl⟩ <;> first | rfl | go_num)
        case measure => simp [intOf]; omega
      · go_upto_region 10 with fail
        refine wp_region_list ?_
        refine readL (.bool false) rfl (eqlI .i64 _ _ _ _ _ _ rfl rfl rfl false (by rw [hkd]; rfl) _) ?_
        simp only [aP, lI, l0, lS]
        refine readL (.bool false) rfl (by kernel_rfl) ?_
        simp only [aP, lI, l0, lS]
        first | show Exit.then _ _ _ _ _ | show Exit.inBlock _ _ _ _ _
        go_upto_region 13 with fail
        refine wp_region_list ?_
        refine readL (.bool false) rfl (eqlI .i64 _ _ _ _ _ _ rfl rfl rfl false (by rw [hkd]; rfl) _) ?_
        simp only [aP, lI, l0, lS]
        refine readL (.bool false) rfl (by kernel_rfl) ?_
        simp only [aP, lI, l0, lS]
        first | show Exit.then _ _ _ _ _ | show Exit.inBlock _ _ _ _ _
        go_upto_region 16 with fail
        refine wp_region_list ?_
        refine readL (.bool false) rfl (eqlI .i64 _ _ _ _ _ _ rfl rfl rfl false (by rw [hkd]; rfl) _) ?_
        simp only [aP, lI, l0, lS]
        refine readL (.bool false) rfl (by kernel_rfl) ?_
        simp only [aP, lI, l0, lS]
        first | show Exit.then _ _ _ _ _ | show Exit.inBlock _ _ _ _ _
        go_upto_region 20 with fail
        refine wp_region_list ?_
        refine readL (.bool true) rfl (eqlI .i64 _ _ _ _ _ _ rfl rfl rfl true (by rw [hkd]; rfl) _) ?_
        simp only [aP, lI, l0, lS]
        refine readL (.bool true) rfl (by kernel_rfl) ?_
        simp only [aP, lI, l0, lS]
        first | show Exit.then _ _ _ _ _ | show Exit.inBlock _ _ _ _ _
        go_upto_region 21 with fail
        refine wp_region_list ?_
        refine readL (.pointer (some ⟨B2, 0, none⟩)) rfl (by kernel_rfl) ?_
        simp only [aP, lI, l0, lS]
        refine readL (.pointer (some ⟨B3, 0, none⟩)) rfl (by kernel_rfl) ?_
        simp only [aP, lI, l0, lS]
        refine readL (.slice (some ad) ops.length cap) rfl (by kernel_rfl) ?_
        simp only [aP, lI, l0, lS]
        refine readL (.int .i64 (j : Int)) rfl (by kernel_rfl) ?_
        simp only [aP, lI, l0, lS]
        refine readL (.pointer (some (ad.add (j * 2)))) rfl (opIdx 22 29 2 ops.length cap ad j _ _ Tryd.underlying22 (fun _ => by kernel_rfl) hlt.1 rfl rfl rfl _) ?_
        simp only [aP, lI, l0, lS]
        refine readL (.pointer (some ((ad.add (j * 2)).add 1))) rfl (by kernel_rfl) ?_
        simp only [aP, lI, l0, lS]
        refine readL (.slice bp b.length bc) rfl (load1 27 _ ((ad.add (j * 2)).add 1) _ rfl rfl (fun _ => by kernel_rfl) ((M.below.cell (World.block_lt_of_cell? w _ hop.cell)).trans hop.cell)) ?_
        simp only [aP, lI, l0, lS]
        replace M := M.swap
        have hlt_O_12_B3 := M.lt mS
        have hlt_O_12_B2 := M.lt (mT _ mS)
        refine callL rfl (fun _ => by kernel_rfl) (hp.sel w _ B3 _ s hg hsw (by omega) bp bc b (Nat.le_trans hop.len (by decide)) hop.le hop.nil hop.byts M ((SrcA.of_old hop.src (X := [B3]) (fun b hb => by obtain rfl := List.mem_singleton.1 hb; assumption)).off (Off.of_below M.below))) ?_
        rintro e w12 ⟨⟨v_12, rfl, O_12⟩, M', o1⟩
        clear M
        have M := M'
        clear M'
        have hsz_12 := o1.size
        clear o1
        refine ⟨_, rfl, ?_⟩
        obtain ⟨p12, c12, rfl, hcc_12, hnn_12, _, _⟩ := id O_12
        replace O_12 : NewF w12 w4.heap.size (sout s b).length (bl (sout s b)) (.slice p12 (sout s b).length c12) := O_12
        simp only [aP, lI, l0, lS]
        replace M := M.swap
        have hlt_O_13_B2 := M.lt mS
        have hlt_O_13_B3 := M.lt (mT _ mS)
        refine callL rfl (fun _ => by kernel_rfl) (hp.opn w _ B2 _ s hg hsw (by omega) p12 c12 (sout s b) (by rw [sout_length]; have := hop.len; split <;> omega) hcc_12 hnn_12 (sout_byts hop.byts) M (NewF.srcA O_12 (fun b hb => by obtain rfl := List.mem_singleton.1 hb; exact hlt_O_12_B2))) ?_
        rintro e w13 ⟨⟨v_13, rfl, O_13⟩, M', o1⟩
        clear M
        have M := M'
        clear M'
        replace O_12 := NewF.off O_12 o1 (fun b hb => by obtain rfl := List.mem_singleton.1 hb; exact hlt_O_12_B2)
        clear o1
        refine ⟨_, rfl, ?_⟩
        obtain ⟨p13, c13, rfl, hcc_13, hnn_13, _, _⟩ := id O_13
        replace O_13 : NewF w13 w12.heap.size (soT s (sout s b)).length (bl (soT s (sout s b))) (.slice p13 (soT s (sout s b)).length c13) := O_13
        simp only [aP, lI, l0, lS]
        refine readL (.tuple #[.slice p13 ((soT s (sout s b)).length) c13, .int .i64 (soE s (sout s b))]) rfl (by kernel_rfl) ?_
        simp only [aP, lI, l0, lS]
        refine readL (.slice p13 ((soT s (sout s b)).length) c13) rfl (by kernel_rfl) ?_
        simp only [aP, lI, l0, lS]
        refine readL (.int .i64 (soE s (sout s b))) rfl (by kernel_rfl) ?_
        simp only [aP, lI, l0, lS]
        refine readL (.slice p13 ((soT s (sout s b)).length) c13) rfl (by kernel_rfl) ?_
        simp only [aP, lI, l0, lS]
        refine readL (.int .i64 (soE s (sout s b))) rfl (by kernel_rfl) ?_
        simp only [aP, lI, l0, lS]
        first | show Exit.then _ _ _ _ _ | show Exit.inBlock _ _ _ _ _
        rw [sopen_back s b] at M
        go_upto_region 22 with fail
        refine wp_region_held_drew (S := fun w' => ((Mm w [(B2, pcs (sseal s b)), (B3, pcs (sseal s b))] w') ∧ NewF w' w4.heap.size (sout s b).length (bl (sout s b)) (.slice p12 (sout s b).length c12)) ∧ NewF w' w12.heap.size (soT s (sout s b)).length (bl (soT s (sout s b))) (.slice p13 (soT s (sout s b)).length c13)) (by kernel_rfl) ⟨⟨M.drew, (O_12.below (Below.refl _ _).drew)⟩, (O_13.below (Below.refl _ _).drew)⟩ ?_
        clear M O_12 O_13
        intro hS_
        obtain ⟨⟨M, O_12⟩, O_13⟩ := hS_
        generalize w13.drew = w14 at M O_12 O_13 ⊢
        refine readHg (i := 0) (some 117) rfl (.int .i64 (soE s (sout s b))) rfl rfl (fun _ ⟨⟨M, O_12⟩, O_13⟩ => (by kernel_rfl)) ⟨⟨M, O_12⟩, O_13⟩ ?_
        simp only [aP, lI, l0, lS]
        refine readHg (i := 1) (some 118) rfl (.bool false) rfl rfl (fun _ ⟨⟨M, O_12⟩, O_13⟩ => neqI .i64 _ _ _ _ _ _ rfl rfl rfl false (by rw [soE_back]; rfl) _) ⟨⟨M, O_12⟩, O_13⟩ ?_
        simp only [aP, lI, l0, lS]
        refine readHg (i := 2) (some 119) rfl (.bool false) rfl rfl (fun _ ⟨⟨M, O_12⟩, O_13⟩ => (by kernel_rfl)) ⟨⟨M, O_12⟩, O_13⟩ ?_
        simp only [aP, lI, l0, lS]
        refine readHg (i := 3) (some 120) rfl (.slice p13 ((soT s (sout s b)).length) c13) rfl rfl (fun _ ⟨⟨M, O_12⟩, O_13⟩ => (by kernel_rfl)) ⟨⟨M, O_12⟩, O_13⟩ ?_
        simp only [aP, lI, l0, lS]
        refine readHg (i := 4) (some 121) rfl (.string (txt ((soT s (sout s b)).length) (bl (soT s (sout s b))))) rfl rfl (fun _ ⟨⟨M, O_12⟩, O_13⟩ => conv_txt 27 5 9 _ rfl Tryd.underlying27 Tryd.underlying5 Tryd.underlying9 p13 ((soT s (sout s b)).length) c13 (bl (soT s (sout s b))) rfl _ (NewF.src O_13) (fun e => by have h1 := hnn_13 e; have h2 := hcc_13; omega)) ⟨⟨M, O_12⟩, O_13⟩ ?_
        simp only [aP, lI, l0, lS]
        refine readHg (i := 5) (some 122) rfl (.slice (some ad) ops.length cap) rfl rfl (fun _ ⟨⟨M, O_12⟩, O_13⟩ => (by kernel_rfl)) ⟨⟨M, O_12⟩, O_13⟩ ?_
        simp only [aP, lI, l0, lS]
        refine readHg (i := 6) (some 123) rfl (.int .i64 (j : Int)) rfl rfl (fun _ ⟨⟨M, O_12⟩, O_13⟩ => (by kernel_rfl)) ⟨⟨M, O_12⟩, O_13⟩ ?_
        simp only [aP, lI, l0, lS]
        refine readHg (i := 7) (some 124) rfl (.pointer (some (ad.add (j * 2)))) rfl rfl (fun _ ⟨⟨M, O_12⟩, O_13⟩ => opIdx 22 29 2 ops.length cap ad j _ _ Tryd.underlying22 (fun _ => by kernel_rfl) hlt.1 rfl rfl rfl _) ⟨⟨M, O_12⟩, O_13⟩ ?_
        simp only [aP, lI, l0, lS]
        refine readHg (i := 8) (some 125) rfl (.pointer (some ((ad.add (j * 2)).add 1))) rfl rfl (fun _ ⟨⟨M, O_12⟩, O_13⟩ => (by kernel_rfl)) ⟨⟨M, O_12⟩, O_13⟩ ?_
        simp only [aP, lI, l0, lS]
        refine readHg (i := 9) (some 126) rfl (.slice bp b.length bc) rfl rfl (fun _ ⟨⟨M, O_12⟩, O_13⟩ => load1 27 _ ((ad.add (j * 2)).add 1) _ rfl rfl (fun _ => by kernel_rfl) ((M.below.cell (World.block_lt_of_cell? w _ hop.cell)).trans hop.cell)) ⟨⟨M, O_12⟩, O_13⟩ ?_
        simp only [aP, lI, l0, lS]
        refine readHg (i := 10) (some 127) rfl (.string (txt b.length (bl b))) rfl rfl (fun _ ⟨⟨M, O_12⟩, O_13⟩ => conv_txt 27 5 9 _ rfl Tryd.underlying27 Tryd.underlying5 Tryd.underlying9 bp b.length bc (bl b) rfl _ (hop.src.below M.below (Nat.le_refl _)) (fun e => by have h1 := hop.nil e; have h2 := hop.le; omega)) ⟨⟨M, O_12⟩, O_13⟩ ?_
        simp only [aP, lI, l0, lS]
        refine readHg (i := 11) (some 128) rfl (.bool false) rfl rfl (fun _ ⟨⟨M, O_12⟩, O_13⟩ => neqT _ _ _ _ _ _ rfl rfl rfl (by rw [soT_back s b hop.byts]) _) ⟨⟨M, O_12⟩, O_13⟩ ?_
        simp only [aP, lI, l0, lS]
        refine readHg (i := 12) (some 129) rfl (.bool false) rfl rfl (fun _ ⟨⟨M, O_12⟩, O_13⟩ => (by kernel_rfl)) ⟨⟨M, O_12⟩, O_13⟩ ?_
        simp only [aP, lI, l0, lS]
        refine wpAnyH_done (by kernel_rfl) ?_ _
        first | show Exit.then _ _ _ _ _ | show Exit.inBlock _ _ _ _ _
        have HS := show Hid _ from M
        clear M O_12 O_13
        go_wp2
        go_roundw
        case rel => first | exact ⟨j + 1, by omega, by omega, by go_num, sseal s b, sseal_w hsw _, (Nat.le_trans (sseal_n s b) (by omega)), HS.out⟩ | ((repeat apply Exists.intro); refine ⟨⟨j + 1, by omega, by omega, ?_, sseal s b, sseal_w hsw _, (Nat.le_trans (sseal_n s b) (by omega)), HS.out⟩, rfl⟩ <;> first | rfl | go_num)
        case measure => simp [intOf]; omega
    · by_cases hl2 : j < ops.length
      · go_upto_region 7 with fail
        refine wp_region_list ?_
        refine readL (.int .i64 (j : Int)) rfl (by kernel_rfl) ?_
        simp only [aP, lI, l0, lS]
        refine readL (.slice sp ops.length cap) rfl (by kernel_rfl) ?_
        simp only [aP, lI, l0, lS]
        refine readL (.int .i64 ((ops.length : Nat) : Int)) rfl (lenS _ 22 29 sp ops.length cap rfl Tryd.underlying22 rfl _) ?_
        simp only [aP, lI, l0, lS]
        refine readL (.bool true) rfl (lssI .i64 _ _ _ _ _ _ rfl rfl rfl true (decide_eq_true (by omega)) _) ?_
        simp only [aP, lI, l0, lS]
        refine readL (.bool true) rfl (by kernel_rfl) ?_
        simp only [aP, lI, l0, lS]
        refine readL (.int .i64 (j : Int)) rfl (by kernel_rfl) ?_
        simp only [aP, lI, l0, lS]
        refine readL (.bool false) rfl (lssI .i64 _ _ _ _ _ _ rfl rfl rfl false (decide_eq_false (by omega)) _) ?_
        simp only [aP, lI, l0, lS]
        refine readL (.bool false) rfl (by kernel_rfl) ?_
        simp only [aP, lI, l0, lS]
        first | show Exit.then _ _ _ _ _ | show Exit.inBlock _ _ _ _ _
        go_upto_region 24 with fail
        refine wp_region_list ?_
        refine readL (.pointer (some ⟨B2, 0, none⟩)) rfl (by kernel_rfl) ?_
        simp only [aP, lI, l0, lS]
        refine callL rfl (fun _ => by kernel_rfl) (hp.split w _ B2 _ s hg hsw M) ?_
        rintro e w27 ⟨rfl, l⟩
        replace M := M.call l
        clear l
        refine ⟨_, rfl, ?_⟩
        simp only [aP, lI, l0, lS]
        refine readL (.tuple #[.agg (row .u8 32 (kA s.c 0 (bl []))).toArray, .agg (row .u8 32 (kB s.c 0 (bl []))).toArray]) rfl (by kernel_rfl) ?_
        simp only [aP, lI, l0, lS]
        refine readL (.agg (row .u8 32 (kA s.c 0 (bl []))).toArray) rfl (by kernel_rfl) ?_
        simp only [aP, lI, l0, lS]
        refine readL (.agg (row .u8 32 (kB s.c 0 (bl []))).toArray) rfl (by kernel_rfl) ?_
        simp only [aP, lI, l0, lS]
        refine actL (w' := w27.alloc (.cells zu8_32 36)) (.pointer (some ⟨w27.heap.size, 0, none⟩)) rfl (by kernel_rfl) ?_
        simp only [aP, lI, l0, lS]
        have hB_B28 : w.heap.size ≤ w27.heap.size := M.below.size
        replace M := M.box zu8_32 36 w27.heap.size rfl
        generalize w27.alloc (.cells zu8_32 36) = w28 at M  ⊢
        generalize eB : w27.heap.size = B28 at M hB_B28  ⊢
        have hE_B28 : w27.heap.size ≤ B28 := Nat.le_of_eq eB
        have hF_B28 : B28 ≤ w27.heap.size := Nat.le_of_eq eB.symm
        clear eB
        replace M : Mm w ([(B28, [.int .u8 0, .int .u8 0, .int .u8 0, .int .u8 0, .int .u8 0, .int .u8 0, .int .u8 0, .int .u8 0, .int .u8 0, .int .u8 0, .int .u8 0, .int .u8 0, .int .u8 0, .int .u8 0, .int .u8 0, .int .u8 0, .int .u8 0, .int .u8 0, .int .u8 0, .int .u8 0, .int .u8 0, .int .u8 0, .int .u8 0, .int .u8 0, .int .u8 0, .int .u8 0, .int .u8 0, .int .u8 0, .int .u8 0, .int .u8 0, .int .u8 0, .int .u8 0]), (B2, pcs s), (B3, pcs s)]) w28 := M
        refine actL (w' := w28.alloc (.cells zu8_32 36)) (.pointer (some ⟨w28.heap.size, 0, none⟩)) rfl (by kernel_rfl) ?_
        simp only [aP, lI, l0, lS]
        have hB_B29 : w.heap.size ≤ w28.heap.size := M.below.size
        replace M := M.box zu8_32 36 w28.heap.size rfl
        generalize w28.alloc (.cells zu8_32 36) = w29 at M  ⊢
        generalize eB : w28.heap.size = B29 at M hB_B29  ⊢
        have hE_B29 : w28.heap.size ≤ B29 := Nat.le_of_eq eB
        have hF_B29 : B29 ≤ w28.heap.size := Nat.le_of_eq eB.symm
        clear eB
        replace M : Mm w ([(B29, [.int .u8 0, .int .u8 0, .int .u8 0, .int .u8 0, .int .u8 0, .int .u8 0, .int .u8 0, .int .u8 0, .int .u8 0, .int .u8 0, .int .u8 0, .int .u8 0, .int .u8 0, .int .u8 0, .int .u8 0, .int .u8 0, .int .u8 0, .int .u8 0, .int .u8 0, .int .u8 0, .int .u8 0, .int .u8 0, .int .u8 0, .int .u8 0, .int .u8 0, .int .u8 0, .int .u8 0, .int .u8 0, .int .u8 0, .int .u8 0, .int .u8 0, .int .u8 0]), (B28, [.int .u8 0, .int .u8 0, .int .u8 0, .int .u8 0, .int .u8 0, .int .u8 0, .int .u8 0, .int .u8 0, .int .u8 0, .int .u8 0, .int .u8 0, .int .u8 0, .int .u8 0, .int .u8 0, .int .u8 0, .int .u8 0, .int .u8 0, .int .u8 0, .int .u8 0, .int .u8 0, .int .u8 0, .int .u8 0, .int .u8 0, .int .u8 0, .int .u8 0, .int .u8 0, .int .u8 0, .int .u8 0, .int .u8 0, .int .u8 0, .int .u8 0, .int .u8 0]), (B2, pcs s), (B3, pcs s)]) w29 := M
        replace M := M.swap
        refine skipOpL rfl (storeP (row .u8 32 (kA s.c 0 (bl []))) B28 0 36 _ _ rfl rfl rfl (M.thereP mS 0 32 (Nat.le_of_ble_eq_true rfl)) (by kernel_rfl) (row_one .u8 32 (kA s.c 0 (bl [])))) ?_
        simp only [Act.put]
        replace M := M.setAll (row .u8 32 (kA s.c 0 (bl []))) (by rw [row32]; rfl)
        generalize w29.setCells B28 0 (row .u8 32 (kA s.c 0 (bl []))) = w30 at M ⊢
        replace M := M.swap
        refine skipOpL rfl (storeP (row .u8 32 (kB s.c 0 (bl []))) B29 0 36 _ _ rfl rfl rfl (M.thereP mS 0 32 (Nat.le_of_ble_eq_true rfl)) (by kernel_rfl) (row_one .u8 32 (kB s.c 0 (bl [])))) ?_
        simp only [Act.put]
        replace M := M.setAll (row .u8 32 (kB s.c 0 (bl []))) (by rw [row32]; rfl)
        generalize w30.setCells B29 0 (row .u8 32 (kB s.c 0 (bl []))) = w31 at M ⊢
        first | show Exit.then _ _ _ _ _ | show Exit.inBlock _ _ _ _ _
        go_upto_region 25 with fail
        refine wp_region_list ?_
        refine readL (.pointer (some ⟨B3, 0, none⟩)) rfl (by kernel_rfl) ?_
        simp only [aP, lI, l0, lS]
        replace M := M.rot4
        refine callL rfl (fun _ => by kernel_rfl) (hp.split w _ B3 _ s hg hsw M) ?_
        rintro e w32 ⟨rfl, l⟩
        replace M := M.call l
        clear l
        refine ⟨_, rfl, ?_⟩
        simp only [aP, lI, l0, lS]
        refine readL (.tuple #[.agg (row .u8 32 (kA s.c 0 (bl []))).toArray, .agg (row .u8 32 (kB s.c 0 (bl []))).toArray]) rfl (by kernel_rfl) ?_
        simp only [aP, lI, l0, lS]
        refine readL (.agg (row .u8 32 (kA s.c 0 (bl []))).toArray) rfl (by kernel_rfl) ?_
        simp only [aP, lI, l0, lS]
        refine readL (.agg (row .u8 32 (kB s.c 0 (bl []))).toArray) rfl (by kernel_rfl) ?_
        simp only [aP, lI, l0, lS]
        refine actL (w' := w32.alloc (.cells zu8_32 36)) (.pointer (some ⟨w32.heap.size, 0, none⟩)) rfl (by kernel_rfl) ?_
        simp only [aP, lI, l0, lS]
        have hB_B33 : w.heap.size ≤ w32.heap.size := M.below.size
        replace M := M.box zu8_32 36 w32.heap.size rfl
        generalize w32.alloc (.cells zu8_32 36) = w33 at M  ⊢
        generalize eB : w32.heap.size = B33 at M hB_B33  ⊢
        have hE_B33 : w32.heap.size ≤ B33 := Nat.le_of_eq eB
        have hF_B33 : B33 ≤ w32.heap.size := Nat.le_of_eq eB.symm
        clear eB
        replace M : Mm w ([(B33, [.int .u8 0, .int .u8 0, .int .u8 0, .int .u8 0, .int .u8 0, .int .u8 0, .int .u8 0, .int .u8 0, .int .u8 0, .int .u8 0, .int .u8 0, .int .u8 0, .int .u8 0, .int .u8 0, .int .u8 0, .int .u8 0, .int .u8 0, .int .u8 0, .int .u8 0, .int .u8 0, .int .u8 0, .int .u8 0, .int .u8 0, .int .u8 0, .int .u8 0, .int .u8 0, .int .u8 0, .int .u8 0, .int .u8 0, .int .u8 0, .int .u8 0, .int .u8 0]), (B3, pcs s), (B29, row .u8 32 (kB s.c 0 (bl []))), (B28, row .u8 32 (kA s.c 0 (bl []))), (B2, pcs s)]) w33 := M
        refine actL (w' := w33.alloc (.cells zu8_32 36)) (.pointer (some ⟨w33.heap.size, 0, none⟩)) rfl (by kernel_rfl) ?_
        simp only [aP, lI, l0, lS]
        have hB_B34 : w.heap.size ≤ w33.heap.size := M.below.size
        replace M := M.box zu8_32 36 w33.heap.size rfl
        generalize w33.alloc (.cells zu8_32 36) = w34 at M  ⊢
        generalize eB : w33.heap.size = B34 at M hB_B34  ⊢
        have hE_B34 : w33.heap.size ≤ B34 := Nat.le_of_eq eB
        have hF_B34 : B34 ≤ w33.heap.size := Nat.le_of_eq eB.symm
        clear eB
        replace M : Mm w ([(B34, [.int .u8 0, .int .u8 0, .int .u8 0, .int .u8 0, .int .u8 0, .int .u8 0, .int .u8 0, .int .u8 0, .int .u8 0, .int .u8 0, .int .u8 0, .int .u8 0, .int .u8 0, .int .u8 0, .int .u8 0, .int .u8 0, .int .u8 0, .int .u8 0, .int .u8 0, .int .u8 0, .int .u8 0, .int .u8 0, .int .u8 0, .int .u8 0, .int .u8 0, .int .u8 0, .int .u8 0, .int .u8 0, .int .u8 0, .int .u8 0, .int .u8 0, .int .u8 0]), (B33, [.int .u8 0, .int .u8 0, .int .u8 0, .int .u8 0, .int .u8 0, .int .u8 0, .int .u8 0, .int .u8 0, .int .u8 0, .int .u8 0, .int .u8 0, .int .u8 0, .int .u8 0, .int .u8 0, .int .u8 0, .int .u8 0, .int .u8 0, .int .u8 0, .int .u8 0, .int .u8 0, .int .u8 0, .int .u8 0, .int .u8 0, .int .u8 0, .int .u8 0, .int .u8 0, .int .u8 0, .int .u8 0, .int .u8 0, .int .u8 0, .int .u8 0, .int .u8 0]), (B3, pcs s), (B29, row .u8 32 (kB s.c 0 (bl []))), (B28, row .u8 32 (kA s.c 0 (bl []))), (B2, pcs s)]) w34 := M
        replace M := M.swap
        refine skipOpL rfl (storeP (row .u8 32 (kA s.c 0 (bl []))) B33 0 36 _ _ rfl rfl rfl (M.thereP mS 0 32 (Nat.le_of_ble_eq_true rfl)) (by kernel_rfl) (row_one .u8 32 (kA s.c 0 (bl [])))) ?_
        simp only [Act.put]
        replace M := M.setAll (row .u8 32 (kA s.c 0 (bl []))) (by rw [row32]; rfl)
        generalize w34.setCells B33 0 (row .u8 32 (kA s.c 0 (bl []))) = w35 at M ⊢
        replace M := M.swap
        refine skipOpL rfl (storeP (row .u8 32 (kB s.c 0 (bl []))) B34 0 36 _ _ rfl rfl rfl (M.thereP mS 0 32 (Nat.le_of_ble_eq_true rfl)) (by kernel_rfl) (row_one .u8 32 (kB s.c 0 (bl [])))) ?_
        simp only [Act.put]
        replace M := M.setAll (row .u8 32 (kB s.c 0 (bl []))) (by rw [row32]; rfl)
        generalize w35.setCells B34 0 (row .u8 32 (kB s.c 0 (bl []))) = w36 at M ⊢
        first | show Exit.then _ _ _ _ _ | show Exit.inBlock _ _ _ _ _
        go_upto_region 26 with fail
        refine wp_region_list ?_
        refine readL (.pointer (some ⟨B2, 0, none⟩)) rfl (by kernel_rfl) ?_
        simp only [aP, lI, l0, lS]
        replace M : Mm w [(B2, pcs s), (B34, row .u8 32 (kB s.c 0 (bl []))), (B33, row .u8 32 (kA s.c 0 (bl []))), (B3, pcs s), (B29, row .u8 32 (kB s.c 0 (bl []))), (B28, row .u8 32 (kA s.c 0 (bl [])))] w36 := M.perm (List.perm_middle (l₁ := [(B34, row .u8 32 (kB s.c 0 (bl []))), (B33, row .u8 32 (kA s.c 0 (bl []))), (B3, pcs s), (B29, row .u8 32 (kB s.c 0 (bl []))), (B28, row .u8 32 (kA s.c 0 (bl [])))]) (a := (B2, pcs s)) (l₂ := []))
        refine callL rfl (fun _ => by kernel_rfl) (hp.hash w _ B2 _ s hg M) ?_
        rintro e w37 ⟨rfl, l⟩
        replace M := M.call l
        clear l
        refine ⟨_, rfl, ?_⟩
        simp only [aP, lI, l0, lS]
        refine readL (.pointer (some ⟨B3, 0, none⟩)) rfl (by kernel_rfl) ?_
        simp only [aP, lI, l0, lS]
        replace M := M.rot4
        refine callL rfl (fun _ => by kernel_rfl) (hp.hash w _ B3 _ s hg M) ?_
        rintro e w38 ⟨rfl, l⟩
        replace M := M.call l
        clear l
        refine ⟨_, rfl, ?_⟩
        simp only [aP, lI, l0, lS]
        refine readL (.bool true) rfl (eqlRow 32 .u8 s.h s.h 36 5 _ _ _ rfl rfl rfl Tryd.underlying36 Tryd.underlying5 (fun _ => by kernel_rfl) (by kernel_rfl) (fun _ _ => rfl) _) ?_
        simp only [aP, lI, l0, lS]
        refine readL (.bool true) rfl (by kernel_rfl) ?_
        simp only [aP, lI, l0, lS]
        refine readL (.agg (row .u8 32 (kA s.c 0 (bl []))).toArray) rfl (loadN 36 _ ⟨B28, 0, none⟩ (row .u8 32 (kA s.c 0 (bl []))) rfl rfl (fun _ => by kernel_rfl) (fun _ => by rw [row32]; kernel_rfl) (M.part (mT _ (mT _ (mT _ (mT _ (mT _ mS))))) 0 _ (by rw [List.drop_zero, List.take_length]))) ?_
        simp only [aP, lI, l0, lS]
        refine readL (.agg (row .u8 32 (kA s.c 0 (bl []))).toArray) rfl (loadN 36 _ ⟨B33, 0, none⟩ (row .u8 32 (kA s.c 0 (bl []))) rfl rfl (fun _ => by kernel_rfl) (fun _ => by rw [row32]; kernel_rfl) (M.part (mT _ (mT _ (mT _ mS))) 0 _ (by rw [List.drop_zero, List.take_length]))) ?_
        simp only [aP, lI, l0, lS]
        refine readL (.bool true) rfl (eqlRow 32 .u8 (kA s.c 0 (bl [])) (kA s.c 0 (bl [])) 36 5 _ _ _ rfl rfl rfl Tryd.underlying36 Tryd.underlying5 (fun _ => by kernel_rfl) (by kernel_rfl) (fun _ _ => rfl) _) ?_
        simp only [aP, lI, l0, lS]
        refine readL (.bool true) rfl (by kernel_rfl) ?_
        simp only [aP, lI, l0, lS]
        refine readL (.bool true) rfl (by kernel_rfl) ?_
        simp only [aP, lI, l0, lS]
        refine readL (.agg (row .u8 32 (kB s.c 0 (bl []))).toArray) rfl (loadN 36 _ ⟨B29, 0, none⟩ (row .u8 32 (kB s.c 0 (bl []))) rfl rfl (fun _ => by kernel_rfl) (fun _ => by rw [row32]; kernel_rfl) (M.part (mT _ (mT _ (mT _ (mT _ mS)))) 0 _ (by rw [List.drop_zero, List.take_length]))) ?_
        simp only [aP, lI, l0, lS]
        refine readL (.agg (row .u8 32 (kB s.c 0 (bl []))).toArray) rfl (loadN 36 _ ⟨B34, 0, none⟩ (row .u8 32 (kB s.c 0 (bl []))) rfl rfl (fun _ => by kernel_rfl) (fun _ => by rw [row32]; kernel_rfl) (M.part (mT _ (mT _ mS)) 0 _ (by rw [List.drop_zero, List.take_length]))) ?_
        simp only [aP, lI, l0, lS]
        refine readL (.bool true) rfl (eqlRow 32 .u8 (kB s.c 0 (bl [])) (kB s.c 0 (bl [])) 36 5 _ _ _ rfl rfl rfl Tryd.underlying36 Tryd.underlying5 (fun _ => by kernel_rfl) (by kernel_rfl) (fun _ _ => rfl) _) ?_
        simp only [aP, lI, l0, lS]
        refine readL (.bool true) rfl (by kernel_rfl) ?_
        simp only [aP, lI, l0, lS]
        refine readL (.bool true) rfl (by kernel_rfl) ?_
        simp only [aP, lI, l0, lS]
        first | show Exit.then _ _ _ _ _ | show Exit.inBlock _ _ _ _ _
        have hBel := M.below
        clear M
        go_wp2
        go_ret
        exact ⟨rfl, hBel⟩
      · go_upto_region 7 with fail
        refine wp_region_list ?_
        refine readL (.int .i64 (j : Int)) rfl (by kernel_rfl) ?_
        simp only [aP, lI, l0, lS]
        refine readL (.slice sp ops.length cap) rfl (by kernel_rfl) ?_
        simp only [aP, lI, l0, lS]
        refine readL (.int .i64 ((ops.length : Nat) : Int)) rfl (lenS _ 22 29 sp ops.length cap rfl Tryd.underlying22 rfl _) ?_
        simp only [aP, lI, l0, lS]
        refine readL (.bool false) rfl (lssI .i64 _ _ _ _ _ _ rfl rfl rfl false (decide_eq_false (by omega)) _) ?_
        simp only [aP, lI, l0, lS]
        refine readL (.bool false) rfl (by kernel_rfl) ?_
        simp only [aP, lI, l0, lS]
        with_reducible refine skipL ?_ ?_
        · rfl
        simp only [aP, lI, l0, lS]
        with_reducible refine skipL ?_ ?_
        · rfl
        simp only [aP, lI, l0, lS]
        refine readL (.bool false) rfl (by kernel_rfl) ?_
        simp only [aP, lI, l0, lS]
        first | show Exit.then _ _ _ _ _ | show Exit.inBlock _ _ _ _ _
        go_upto_region 24 with fail
        refine wp_region_list ?_
        refine readL (.pointer (some ⟨B2, 0, none⟩)) rfl (by kernel_rfl) ?_
        simp only [aP, lI, l0, lS]
        refine callL rfl (fun _ => by kernel_rfl) (hp.split w _ B2 _ s hg hsw M) ?_
        rintro e w15 ⟨rfl, l⟩
        replace M := M.call l
        clear l
        refine ⟨_, rfl, ?_⟩
        simp only [aP, lI, l0, lS]
        refine readL (.tuple #[.agg (row .u8 32 (kA s.c 0 (bl []))).toArray, .agg (row .u8 32 (kB s.c 0 (bl []))).toArray]) rfl (by kernel_rfl) ?_
        simp only [aP, lI, l0, lS]
        refine readL (.agg (row .u8 32 (kA s.c 0 (bl []))).toArray) rfl (by kernel_rfl) ?_
        simp only [aP, lI, l0, lS]
        refine readL (.agg (row .u8 32 (kB s.c 0 (bl []))).toArray) rfl (by kernel_rfl) ?_
        simp only [aP, lI, l0, lS]
        refine actL (w' := w15.alloc (.cells zu8_32 36)) (.pointer (some ⟨w15.heap.size, 0, none⟩)) rfl (by kernel_rfl) ?_
        simp only [aP, lI, l0, lS]
        have hB_B16 : w.heap.size ≤ w15.heap.size := M.below.size
        replace M := M.box zu8_32 36 w15.heap.size rfl
        generalize w15.alloc (.cells zu8_32 36) = w16 at M  ⊢
        generalize eB : w15.heap.size = B16 at M hB_B16  ⊢
        have hE_B16 : w15.heap.size ≤ B16 := Nat.le_of_eq eB
        have hF_B16 : B16 ≤ w15.heap.size := Nat.le_of_eq eB.symm
        clear eB
        replace M : Mm w ([(B16, [.int .u8 0, .int .u8 0, .int .u8 0, .int .u8 0, .int .u8 0, .int .u8 0, .int .u8 0, .int .u8 0, .int .u8 0, .int .u8 0, .int .u8 0, .int .u8 0, .int .u8 0, .int .u8 0, .int .u8 0, .int .u8 0, .int .u8 0, .int .u8 0, .int .u8 0, .int .u8 0, .int .u8 0, .int .u8 0, .int .u8 0, .int .u8 0, .int .u8 0, .int .u8 0, .int .u8 0, .int .u8 0, .int .u8 0, .int .u8 0, .int .u8 0, .int .u8 0]), (B2, pcs s), (B3, pcs s)]) w16 := M
        refine actL (w' := w16.alloc (.cells zu8_32 36)) (.pointer (some ⟨w16.heap.size, 0, none⟩)) rfl (by kernel_rfl) ?_
        simp only [aP, lI, l0, lS]
        have hB_B17 : w.heap.size ≤ w16.heap.size := M.below.size
        replace M := M.box zu8_32 36 w16.heap.size rfl
        generalize w16.alloc (.cells zu8_32 36) = w17 at M  ⊢
        generalize eB : w16.heap.size = B17 at M hB_B17  ⊢
        have hE_B17 : w16.heap.size ≤ B17 := Nat.le_of_eq eB
        have hF_B17 : B17 ≤ w16.heap.size := Nat.le_of_eq eB.symm
        clear eB
        replace M : Mm w ([(B17, [.int .u8 0, .int .u8 0, .int .u8 0, .int .u8 0, .int .u8 0, .int .u8 0, .int .u8 0, .int .u8 0, .int .u8 0, .int .u8 0, .int .u8 0, .int .u8 0, .int .u8 0, .int .u8 0, .int .u8 0, .int .u8 0, .int .u8 0, .int .u8 0, .int .u8 0, .int .u8 0, .int .u8 0, .int .u8 0, .int .u8 0, .int .u8 0, .int .u8 0, .int .u8 0, .int .u8 0, .int .u8 0, .int .u8 0, .int .u8 0, .int .u8 0, .int .u8 0]), (B16, [.int .u8 0, .int .u8 0, .int .u8 0, .int .u8 0, .int .u8 0, .int .u8 0, .int .u8 0, .int .u8 0, .int .u8 0, .int .u8 0, .int .u8 0, .int .u8 0, .int .u8 0, .int .u8 0, .int .u8 0, .int .u8 0, .int .u8 0, .int .u8 0, .int .u8 0, .int .u8 0, .int .u8 0, .int .u8 0, .int .u8 0, .int .u8 0, .int .u8 0, .int .u8 0, .int .u8 0, .int .u8 0, .int .u8 0, .int .u8 0, .int .u8 0, .int .u8 0]), (B2, pcs s), (B3, pcs s)]) w17 := M
        replace M := M.swap
        refine skipOpL rfl (storeP (row .u8 32 (kA s.c 0 (bl []))) B16 0 36 _ _ rfl rfl rfl (M.thereP mS 0 32 (Nat.le_of_ble_eq_true rfl)) (by kernel_rfl) (row_one .u8 32 (kA s.c 0 (bl [])))) ?_
        simp only [Act.put]
        replace M := M.setAll (row .u8 32 (kA s.c 0 (bl []))) (by rw [row32]; rfl)
        generalize w17.setCells B16 0 (row .u8 32 (kA s.c 0 (bl []))) = w18 at M ⊢
        replace M := M.swap
        refine skipOpL rfl (storeP (row .u8 32 (kB s.c 0 (bl []))) B17 0 36 _ _ rfl rfl rfl (M.thereP mS 0 32 (Nat.le_of_ble_eq_true rfl)) (by kernel_rfl) (row_one .u8 32 (kB s.c 0 (bl [])))) ?_
        simp only [Act.put]
        replace M := M.setAll (row .u8 32 (kB s.c 0 (bl []))) (by rw [row32]; rfl)
        generalize w18.setCells B17 0 (row .u8 32 (kB s.c 0 (bl []))) = w19 at M ⊢
        first | show Exit.then _ _ _ _ _ | show Exit.inBlock _ _ _ _ _
        go_upto_region 25 with fail
        refine wp_region_list ?_
        refine readL (.pointer (some ⟨B3, 0, none⟩)) rfl (by kernel_rfl) ?_
        simp only [aP, lI, l0, lS]
        replace M := M.rot4
        refine callL rfl (fun _ => by kernel_rfl) (hp.split w _ B3 _ s hg hsw M) ?_
        rintro e w20 ⟨rfl, l⟩
        replace M := M.call l
        clear l
        refine ⟨_, rfl, ?_⟩
        simp only [aP, lI, l0, lS]
        refine readL (.tuple #[.agg (row .u8 32 (kA s.c 0 (bl []))).toArray, .agg (row .u8 32 (kB s.c 0 (bl []))).toArray]) rfl (by kernel_rfl) ?_
        simp only [aP, lI, l0, lS]
        refine readL (.agg (row .u8 32 (kA s.c 0 (bl []))).toArray) rfl (by kernel_rfl) ?_
        simp only [aP, lI, l0, lS]
        refine readL (.agg (row .u8 32 (kB s.c 0 (bl []))).toArray) rfl (by kernel_rfl) ?_
        simp only [aP, lI, l0, lS]
        refine actL (w' := w20.alloc (.cells zu8_32 36)) (.pointer (some ⟨w20.heap.size, 0, none⟩)) rfl (by kernel_rfl) ?_
        simp only [aP, lI, l0, lS]
        have hB_B21 : w.heap.size ≤ w20.heap.size := M.below.size
        replace M := M.box zu8_32 36 w20.heap.size rfl
        generalize w20.alloc (.cells zu8_32 36) = w21 at M  ⊢
        generalize eB : w20.heap.size = B21 at M hB_B21  ⊢
        have hE_B21 : w20.heap.size ≤ B21 := Nat.le_of_eq eB
        have hF_B21 : B21 ≤ w20.heap.size := Nat.le_of_eq eB.symm
        clear eB
        replace M : Mm w ([(B21, [.int .u8 0, .int .u8 0, .int .u8 0, .int .u8 0, .int .u8 0, .int .u8 0, .int .u8 0, .int .u8 0, .int .u8 0, .int .u8 0, .int .u8 0, .int .u8 0, .int .u8 0, .int .u8 0, .int .u8 0, .int .u8 0, .int .u8 0, .int .u8 0, .int .u8 0, .int .u8 0, .int .u8 0, .int .u8 0, .int .u8 0, .int .u8 0, .int .u8 0, .int .u8 0, .int .u8 0, .int .u8 0, .int .u8 0, .int .u8 0, .int .u8 0, .int .u8 0]), (B3, pcs s), (B17, row .u8 32 (kB s.c 0 (bl []))), (B16, row .u8 32 (kA s.c 0 (bl []))), (B2, pcs s)]) w21 := M
        refine actL (w' := w21.alloc (.cells zu8_32 36)) (.pointer (some ⟨w21.heap.size, 0, none⟩)) rfl (by kernel_rfl) ?_
        simp only [aP, lI, l0, lS]
        have hB_B22 : w.heap.size ≤ w21.heap.size := M.below.size
        replace M := M.box zu8_32 36 w21.heap.size rfl
        generalize w21.alloc (.cells zu8_32 36) = w22 at M  ⊢
        generalize eB : w21.heap.size = B22 at M hB_B22  ⊢
        have hE_B22 : w21.heap.size ≤ B22 := Nat.le_of_eq eB
        have hF_B22 : B22 ≤ w21.heap.size := Nat.le_of_eq eB.symm
        clear eB
        replace M : Mm w ([(B22, [.int .u8 0, .int .u8 0, .int .u8 0, .int .u8 0, .int .u8 0, .int .u8 0, .int .u8 0, .int .u8 0, .int .u8 0, .int .u8 0, .int .u8 0, .int .u8 0, .int .u8 0, .int .u8 0, .int .u8 0, .int .u8 0, .int .u8 0, .int .u8 0, .int .u8 0, .int .u8 0, .int .u8 0, .int .u8 0, .int .u8 0, .int .u8 0, .int .u8 0, .int .u8 0, .int .u8 0, .int .u8 0, .int .u8 0, .int .u8 0, .int .u8 0, .int .u8 0]), (B21, [.int .u8 0, .int .u8 0, .int .u8 0, .int .u8 0, .int .u8 0, .int .u8 0, .int .u8 0, .int .u8 0, .int .u8 0, .int .u8 0, .int .u8 0, .int .u8 0, .int .u8 0, .int .u8 0, .int .u8 0, .int .u8 0, .int .u8 0, .int .u8 0, .int .u8 0, .int .u8 0, .int .u8 0, .int .u8 0, .int .u8 0, .int .u8 0, .int .u8 0, .int .u8 0, .int .u8 0, .int .u8 0, .int .u8 0, .int .u8 0, .int .u8 0, .int .u8 0]), (B3, pcs s), (B17, row .u8 32 (kB s.c 0 (bl []))), (B16, row .u8 32 (kA s.c 0 (bl []))), (B2, pcs s)]) w22 := M
        replace M := M.swap
        refine skipOpL rfl (storeP (row .u8 32 (kA s.c 0 (bl []))) B21 0 36 _ _ rfl rfl rfl (M.thereP mS 0 32 (Nat.le_of_ble_eq_true rfl)) (by kernel_rfl) (row_one .u8 32 (kA s.c 0 (bl [])))) ?_
        simp only [Act.put]
        replace M := M.setAll (row .u8 32 (kA s.c 0 (bl []))) (by rw [row32]; rfl)
        generalize w22.setCells B21 0 (row .u8 32 (kA s.c 0 (bl []))) = w23 at M ⊢
        replace M := M.swap
        refine skipOpL rfl (storeP (row .u8 32 (kB s.c 0 (bl []))) B22 0 36 _ _ rfl rfl rfl (M.thereP mS 0 32 (Nat.le_of_ble_eq_true rfl)) (by kernel_rfl) (row_one .u8 32 (kB s.c 0 (bl [])))) ?_
        simp only [Act.put]
        replace M := M.setAll (row .u8 32 (kB s.c 0 (bl []))) (by rw [row32]; rfl)
        generalize w23.setCells B22 0 (row .u8 32 (kB s.c 0 (bl []))) = w24 at M ⊢
        first | show Exit.then _ _ _ _ _ | show Exit.inBlock _ _ _ _ _
        go_upto_region 26 with fail
        refine wp_region_list ?_
        refine readL (.pointer (some ⟨B2, 0, none⟩)) rfl (by kernel_rfl) ?_
        simp only [aP, lI, l0, lS]
        replace M : Mm w [(B2, pcs s), (B22, row .u8 32 (kB s.c 0 (bl []))), (B21, row .u8 32 (kA s.c 0 (bl []))), (B3, pcs s), (B17, row .u8 32 (kB s.c 0 (bl []))), (B16, row .u8 32 (kA s.c 0 (bl [])))] w24 := M.perm (List.perm_middle (l₁ := [(B22, row .u8 32 (kB s.c 0 (bl []))), (B21, row .u8 32 (kA s.c 0 (bl []))), (B3, pcs s), (B17, row .u8 32 (kB s.c 0 (bl []))), (B16, row .u8 32 (kA s.c 0 (bl [])))]) (a := (B2, pcs s)) (l₂ := []))
        refine callL rfl (fun _ => by kernel_rfl) (hp.hash w _ B2 _ s hg M) ?_
        rintro e w25 ⟨rfl, l⟩
        replace M := M.call l
        clear l
        refine ⟨_, rfl, ?_⟩
        simp only [aP, lI, l0, lS]
        refine readL (.pointer (some ⟨B3, 0, none⟩)) rfl (by kernel_rfl) ?_
        simp only [aP, lI, l0, lS]
        replace M := M.rot4
        refine callL rfl (fun _ => by kernel_rfl) (hp.hash w _ B3 _ s hg M) ?_
        rintro e w26 ⟨rfl, l⟩
        replace M := M.call l
        clear l
        refine ⟨_, rfl, ?_⟩
        simp only [aP, lI, l0, lS]
        refine readL (.bool true) rfl (eqlRow 32 .u8 s.h s.h 36 5 _ _ _ rfl rfl rfl Tryd.underlying36 Tryd.underlying5 (fun _ => by kernel_rfl) (by kernel_rfl) (fun _ _ => rfl) _) ?_
        simp only [aP, lI, l0, lS]
        refine readL (.bool true) rfl (by kernel_rfl) ?_
        simp only [aP, lI, l0, lS]
        refine readL (.agg (row .u8 32 (kA s.c 0 (bl []))).toArray) rfl (loadN 36 _ ⟨B16, 0, none⟩ (row .u8 32 (kA s.c 0 (bl []))) rfl rfl (fun _ => by kernel_rfl) (fun _ => by rw [row32]; kernel_rfl) (M.part (mT _ (mT _ (mT _ (mT _ (mT _ mS))))) 0 _ (by rw [List.drop_zero, List.take_length]))) ?_
        simp only [aP, lI, l0, lS]
        refine readL (.agg (row .u8 32 (kA s.c 0 (bl []))).toArray) rfl (loadN 36 _ ⟨B21, 0, none⟩ (row .u8 32 (kA s.c 0 (bl []))) rfl rfl (fun _ => by kernel_rfl) (fun _ => by rw [row32]; kernel_rfl) (M.part (mT _ (mT _ (mT _ mS))) 0 _ (by rw [List.drop_zero, List.take_length]))) ?_
        simp only [aP, lI, l0, lS]
        refine readL (.bool true) rfl (eqlRow 32 .u8 (kA s.c 0 (bl [])) (kA s.c 0 (bl [])) 36 5 _ _ _ rfl rfl rfl Tryd.underlying36 Tryd.underlying5 (fun _ => by kernel_rfl) (by kernel_rfl) (fun _ _ => rfl) _) ?_
        simp only [aP, lI, l0, lS]
        refine readL (.bool true) rfl (by kernel_rfl) ?_
        simp only [aP, lI, l0, lS]
        refine readL (.bool true) rfl (by kernel_rfl) ?_
        simp only [aP, lI, l0, lS]
        refine readL (.agg (row .u8 32 (kB s.c 0 (bl []))).toArray) rfl (loadN 36 _ ⟨B17, 0, none⟩ (row .u8 32 (kB s.c 0 (bl []))) rfl rfl (fun _ => by kernel_rfl) (fun _ => by rw [row32]; kernel_rfl) (M.part (mT _ (mT _ (mT _ (mT _ mS)))) 0 _ (by rw [List.drop_zero, List.take_length]))) ?_
        simp only [aP, lI, l0, lS]
        refine readL (.agg (row .u8 32 (kB s.c 0 (bl []))).toArray) rfl (loadN 36 _ ⟨B22, 0, none⟩ (row .u8 32 (kB s.c 0 (bl []))) rfl rfl (fun _ => by kernel_rfl) (fun _ => by rw [row32]; kernel_rfl) (M.part (mT _ (mT _ mS)) 0 _ (by rw [List.drop_zero, List.take_length]))) ?_
        simp only [aP, lI, l0, lS]
        refine readL (.bool true) rfl (eqlRow 32 .u8 (kB s.c 0 (bl [])) (kB s.c 0 (bl [])) 36 5 _ _ _ rfl rfl rfl Tryd.underlying36 Tryd.underlying5 (fun _ => by kernel_rfl) (by kernel_rfl) (fun _ _ => rfl) _) ?_
        simp only [aP, lI, l0, lS]
        refine readL (.bool true) rfl (by kernel_rfl) ?_
        simp only [aP, lI, l0, lS]
        refine readL (.bool true) rfl (by kernel_rfl) ?_
        simp only [aP, lI, l0, lS]
        first | show Exit.then _ _ _ _ _ | show Exit.inBlock _ _ _ _ _
        have hBel := M.below
        clear M
        go_wp2
        go_ret
        exact ⟨rfl, hBel⟩
end Go.Proofs.YtgfpflcoknpbdaaDoor
