/- Texts of LawSymmetricPlays, joined. -/
import Derived.Test.YtgfpflcoknpbdaaGreatDoorP1SymmetricPlays
import Derived.Test.YtgfpflcoknpbdaaGreatDoorP19SymmetricPlays
import Derived.Test.YtgfpflcoknpbdaaGreatDoorP22SymmetricPlays
set_option maxRecDepth 20000
set_option maxHeartbeats 64000000
namespace Go.Proofs.YtgfpflcoknpbdaaGreatDoor
open Go.RowKit
theorem neqRow {P : Program} {o : Oper} {a : Act} (n : Nat) (k : IntKind) (f g : Nat → Int) (t e t' : TypeId) (x y : Operand) (ho : o.op = .binOp .neq t x y t') (hx : a.eval x = .agg (row k n f).toArray) (hy : a.eval y = .agg (row k n g).toArray)
    (ht : P.underlying t = some (.array n e)) (he : P.underlying e = some (.int k)) (hsz : ∀ w, (sizeOf e).run P w = .ok 1 w) (hm : P.eqGuardType P.depth t = false) (h : ∀ j, j < n → f j = g j) (w : World) :
    (execOp a.eval o).run P w = .ok (.value (.bool false)) w := by
  rw [← row_congr k n h] at hy
  have e1 : (binOp .neq t (.agg (row k n f).toArray) (.agg (row k n f).toArray)).run P w = .ok (.bool false) w := by
    rw [run_neq_struct, run_equalIn_row w 9998 t e n k ht he hsz f]
    rfl
  unfold execOp
  simp only [ho, hx, hy, Sem.run_bind, run_eqGuard_agg w .neq t x y _ _ hm, Result.andThen_ok, e1, Sem.run_pure]
theorem sopen_n (s : Sym) (b : List Int) : (sopen s b).n ≤ s.n + 1 := by
  unfold sopen
  split
  · unfold smix snext
    split
    · exact Nat.le_refl _
    · exact Nat.le_succ _
  · exact Nat.le_succ _
def Rest12 (v : Value) (n B : Nat) (ex : List (Nat × List Value)) : Prop := 0 < n → ∃ g cap cs, v = .slice (some ⟨g, 0, none⟩) n cap ∧ ex = [(g, cs)] ∧ cs.length = n ∧ g < B
theorem law_SymmetricPlays (pcs : Sym → List Value) (hp : SymOK pcs) (hcl : CloneOK pcs) (sp : Option Addr) (cap : Nat) (ops : List Opv) (w : World) (hg : SGlob w) (hO : OpsAt w sp ops) (hsm : ∀ j, j < ops.length → (opb ops j).length ≤ 1048576) :
    Calls Tryz.prog 3 #[.slice sp ops.length cap] w fun e w' => e = .returned (.bool true) ∧ Below w.heap.size w w' := by
  have M := Mm.init w
  go_enter Tryz.func3, Tryz.ntmps3
  go_upto_region 0 with fail
  refine wp_region_list ?_
  refine readL (.bool false) rfl (by kernel_rfl) ?_
  simp only [aP, lI, l0, lS]
  first | show Exit.then _ _ _ _ _ | show Exit.inBlock _ _ _ _ _
  go_upto_region 1 with fail
  refine wp_region_list ?_
  have hC : Calls Tryz.prog 4 #[] w (fun e w' => e = .returned (.bool true) ∧ Below w.heap.size w w') := shown12_any pcs hp _ (hg.mm M)
  refine callL rfl (fun _ => by kernel_rfl) (hC) ?_
  rintro e w1 ⟨rfl, l⟩
  replace M := M.call l
  refine ⟨_, rfl, ?_⟩
  clear l hC
  simp only [aP, lI, l0, lS]
  refine readL (.bool true) rfl (by kernel_rfl) ?_
  simp only [aP, lI, l0, lS]
  first | show Exit.then _ _ _ _ _ | show Exit.inBlock _ _ _ _ _
  go_upto_region 2 with fail
  refine wp_region_list ?_
  refine callL rfl (fun _ => by kernel_rfl) (hp.new w _ _ hg M) ?_
  rintro e w2 ⟨B2, rfl, hnew_B2, M', l⟩
  clear M
  have M := M'
  clear M'
  clear l
  refine ⟨_, rfl, ?_⟩
  simp only [aP, lI, l0, lS]
  refine readL (.pointer (some ⟨B2, 0, none⟩)) rfl (by kernel_rfl) ?_
  simp only [aP, lI, l0, lS]
  first | show Exit.then _ _ _ _ _ | show Exit.inBlock _ _ _ _ _
  go_upto_region 3 with fail
  refine wp_region_list ?_
  refine callL rfl (fun _ => by kernel_rfl) (rnew_any w _ _ M) ?_
  rintro e w3 ⟨B3, rfl, hnew_B3, M', l⟩
  clear M
  have M := M'
  clear M'
  clear l
  refine ⟨_, rfl, ?_⟩
  simp only [aP, lI, l0, lS]
  have hlo_B3 : w.heap.size ≤ B3 := (M.rows _ mS).2.1
  refine readL (.pointer (some ⟨B3, 0, none⟩)) rfl (by kernel_rfl) ?_
  simp only [aP, lI, l0, lS]
  first | show Exit.then _ _ _ _ _ | show Exit.inBlock _ _ _ _ _
  go_upto_region 4 with fail
  refine wp_region_list ?_
  refine readL (.bool true) rfl (by kernel_rfl) ?_
  simp only [aP, lI, l0, lS]
  refine readL (.bool false) rfl (by kernel_rfl) ?_
  simp only [aP, lI, l0, lS]
  refine readL (.bool false) rfl (by kernel_rfl) ?_
  simp only [aP, lI, l0, lS]
  refine readL (.pointer (some ⟨B2, 0, none⟩)) rfl (by kernel_rfl) ?_
  simp only [aP, lI, l0, lS]
  refine readL (.bool false) rfl (by kernel_rfl) ?_
  simp only [aP, lI, l0, lS]
  refine readL (.bool false) rfl (by kernel_rfl) ?_
  simp only [aP, lI, l0, lS]
  first | show Exit.then _ _ _ _ _ | show Exit.inBlock _ _ _ _ _
  go_upto_region 6 with fail
  refine wp_region_list ?_
  refine readL (.int .i64 0) rfl (by kernel_rfl) ?_
  simp only [aP, lI, l0, lS]
  first | show Exit.then _ _ _ _ _ | show Exit.inBlock _ _ _ _ _
  replace M := M.swap
  have HI := show Hid _ from M
  clear M
  go_wp2
  go_loopw [4, 6] (fun pv i w' => ∃ (j A : Nat) (s : Sym), j ≤ 12 ∧ j ≤ ops.length ∧ i = .int .i64 (j : Int) ∧ pv = .pointer (some ⟨A, 0, none⟩) ∧ SymW s ∧ s.n ≤ j ∧ Mm w [(A, pcs s), (B3, stc s)] w') (fun _ i _ => 12 - (intOf i).toNat)
  case atStart => exact ⟨0, B2, snew, Nat.zero_le _, Nat.zero_le _, rfl, rfl, snew_w, Nat.le_refl _, HI.out⟩
  case round =>
    clear HI
    obtain ⟨j, A, s, hj12, hjl, rfl, rfl, hsw, hsn, M⟩ := hrel
    have hlo_A : w.heap.size ≤ A := (M.rows _ mS).2.1
    have hlo_Y : w.heap.size ≤ B3 := (M.rows _ (mT _ mS)).2.1
    by_cases hlt : j < ops.length ∧ j < 12
    · obtain ⟨ad, bp, bc, rfl, hop⟩ := hO j hlt.1
      have hbs := hsm j hlt.1
      generalize opk ops j = k at hop
      generalize opb ops j = b at hop hbs
      go_upto_region 7 with fail
      refine wp_region_list ?_
      refine readL (.int .i64 (j : Int)) rfl (by kernel_rfl) ?_
      simp only [aP, lI, l0, lS]
      refine readL (.slice (some ad) ops.length cap) rfl (by kernel_rfl) ?_
      simp only [aP, lI, l0, lS]
      refine readL (.int .i64 ((ops.length : Nat) : Int)) rfl (lenS _ 22 30 (some ad) ops.length cap rfl Tryz.underlying22 rfl _) ?_
      simp only [aP, lI, l0, lS]
      refine readL (.bool true) rfl (lssI .i64 _ _ _ _ _ _ rfl rfl rfl true (decide_eq_true (by omega)) _) ?_
      simp only [aP, lI, l0, lS]
      refine readL (.bool true) rfl (by kernel_rfl) ?_
      simp only [aP, lI, l0, lS]
      refine readL (.int .i64 (j : Int)) rfl (by kernel_rfl) ?_
      simp only [aP, lI, l0, lS]
      refine readL (.bool true) rfl (lssI .i64 _ _ _ _ _ _ rfl rfl rfl true (decide_eq_true (by omega)) _) ?_
      simp only [aP, lI, l0, lS]
      refine readL (.bool true) rfl (by kernel_rfl) ?_
      simp only [aP, lI, l0, lS]
      first | show Exit.then _ _ _ _ _ | show Exit.inBlock _ _ _ _ _
      go_upto_region 9 with fail
      refine wp_region_list ?_
      refine readL (.slice (some ad) ops.length cap) rfl (by kernel_rfl) ?_
      simp only [aP, lI, l0, lS]
      refine readL (.int .i64 (j : Int)) rfl (by kernel_rfl) ?_
      simp only [aP, lI, l0, lS]
      refine readL (.pointer (some (ad.add (j * 2)))) rfl (opIdx 22 30 2 ops.length cap ad j _ _ Tryz.underlying22 (fun _ => by kernel_rfl) hlt.1 rfl rfl rfl _) ?_
      simp only [aP, lI, l0, lS]
      refine readL (.pointer (some ((ad.add (j * 2)).add 1))) rfl (by kernel_rfl) ?_
      simp only [aP, lI, l0, lS]
      refine readL (.slice bp b.length bc) rfl (load1 28 _ ((ad.add (j * 2)).add 1) _ rfl rfl (fun _ => by kernel_rfl) ((M.below.cell (World.block_lt_of_cell? w _ hop.cell)).trans hop.cell)) ?_
      simp only [aP, lI, l0, lS]
      refine readL (.slice bp b.length bc) rfl (by kernel_rfl) ?_
      simp only [aP, lI, l0, lS]
      first | show Exit.then _ _ _ _ _ | show Exit.inBlock _ _ _ _ _
      go_upto_region 10 with fail
      refine wp_region_list ?_
      refine readL (.slice (some ad) ops.length cap) rfl (by kernel_rfl) ?_
      simp only [aP, lI, l0, lS]
      refine readL (.int .i64 (j : Int)) rfl (by kernel_rfl) ?_
      simp only [aP, lI, l0, lS]
      refine readL (.pointer (some (ad.add (j * 2)))) rfl (opIdx 22 30 2 ops.length cap ad j _ _ Tryz.underlying22 (fun _ => by kernel_rfl) hlt.1 rfl rfl rfl _) ?_
      simp only [aP, lI, l0, lS]
      refine readL (.pointer (some (ad.add (j * 2)))) rfl (by kernel_rfl) ?_
      simp only [aP, lI, l0, lS]
      refine readL (.int .i64 k) rfl (load1 3 _ (ad.add (j * 2)) _ rfl rfl (fun _ => by kernel_rfl) ((M.below.cell (World.block_lt_of_cell? w _ hop.kind)).trans hop.kind)) ?_
      simp only [aP, lI, l0, lS]
      have hC : Calls Tryz.prog 7 #[.int .i64 k, .int .i64 6] wr (fun e w' => e = .returned (.int .i64 ((kdn k 6 : Nat) : Int)) ∧ Below wr.heap.size wr w') := kind12_any k 6 (by decide) hop.low _
      refine callL rfl (fun _ => by kernel_rfl) (hC) ?_
      rintro e w4 ⟨rfl, l⟩
      replace M := M.call l
      refine ⟨_, rfl, ?_⟩
      clear l hC
      simp only [aP, lI, l0, lS]
      first | show Exit.then _ _ _ _ _ | show Exit.inBlock _ _ _ _ _
      have hkl := kdn_lt k 6 (by decide)
      obtain hkd | hkd | hkd | hkd | hkd | hkd : kdn k 6 = 0 ∨ kdn k 6 = 1 ∨ kdn k 6 = 2 ∨ kdn k 6 = 3 ∨ kdn k 6 = 4 ∨ kdn k 6 = 5 := by omega
      · go_upto_region 11 with fail
        refine wp_region_list ?_
        refine readL (.bool true) rfl (eqlI .i64 _ _ _ _ _ _ rfl rfl rfl true (by rw [hkd]; rfl) _) ?_
        simp only [aP, lI, l0, lS]
        refine readL (.bool true) rfl (by kernel_rfl) ?_
        simp only [aP, lI, l0, lS]
        first | show Exit.then _ _ _ _ _ | show Exit.inBlock _ _ _ _ _
        go_upto_region 12 with fail
        refine wp_region_list ?_
        refine readL (.pointer (some ⟨A, 0, none⟩)) rfl (by kernel_rfl) ?_
        simp only [aP, lI, l0, lS]
        refine readL (.slice bp b.length bc) rfl (by kernel_rfl) ?_
        simp only [aP, lI, l0, lS]
        refine callL rfl (fun _ => by kernel_rfl) (hp.mix w _ A _ s hg hsw bp bc b (Nat.le_trans hop.len (by decide)) hop.le hop.nil hop.byts M ((SrcA.of_old hop.src (X := [A]) (fun b hb => by obtain rfl := List.mem_singleton.1 hb; assumption)).off (Off.of_below M.below))) ?_
        rintro e w5 ⟨rfl, M', o1⟩
        clear M
        have M := M'
        clear M'
        clear o1
        refine ⟨_, rfl, ?_⟩
        simp only [aP, lI, l0, lS]
        first | show Exit.then _ _ _ _ _ | show Exit.inBlock _ _ _ _ _
        go_upto_region 13 with fail
        refine wp_region_list ?_
        refine readL (.pointer (some ⟨B3, 0, none⟩)) rfl (by kernel_rfl) ?_
        simp only [aP, lI, l0, lS]
        refine readL (.slice bp b.length bc) rfl (by kernel_rfl) ?_
        simp only [aP, lI, l0, lS]
        replace M := M.swap
        refine callL rfl (fun _ => by kernel_rfl) (rmix_any w _ B3 _ s hsw.h bp bc b (Nat.le_trans hbs (by decide)) hop.nil hop.byts M ((SrcA.of_old hop.src (X := [B3]) (fun b hb => by obtain rfl := List.mem_singleton.1 hb; assumption)).off (Off.of_below M.below))) ?_
        rintro e w6 ⟨rfl, M', o1⟩
        clear M
        have M := M'
        clear M'
        clear o1
        refine ⟨_, rfl, ?_⟩
        simp only [aP, lI, l0, lS]
        first | show Exit.then _ _ _ _ _ | show Exit.inBlock _ _ _ _ _
        replace M := M.swap
        go_upto_region 41 with fail
        refine wp_region_list ?_
        refine readL (.pointer (some ⟨A, 0, none⟩)) rfl (by kernel_rfl) ?_
        simp only [aP, lI, l0, lS]
        refine callL rfl (fun _ => by kernel_rfl) (hp.split w _ A _ (smix s b) hg (smix_w hsw _) M) ?_
        rintro e w7 ⟨rfl, l⟩
        replace M := M.call l
        clear l
        refine ⟨_, rfl, ?_⟩
        simp only [aP, lI, l0, lS]
        refine readL (.tuple #[.agg (row .u8 32 (kA (smix s b).c 0 (bl []))).toArray, .agg (row .u8 32 (kB (smix s b).c 0 (bl []))).toArray]) rfl (by kernel_rfl) ?_
        simp only [aP, lI, l0, lS]
        refine readL (.agg (row .u8 32 (kA (smix s b).c 0 (bl []))).toArray) rfl (by kernel_rfl) ?_
        simp only [aP, lI, l0, lS]
        refine readL (.agg (row .u8 32 (kB (smix s b).c 0 (bl []))).toArray) rfl (by kernel_rfl) ?_
        simp only [aP, lI, l0, lS]
        refine actL (w' := w7.alloc (.cells zu8_32 38)) (.pointer (some ⟨w7.heap.size, 0, none⟩)) rfl (by kernel_rfl) ?_
        simp only [aP, lI, l0, lS]
        have hB_B8 : w.heap.size ≤ w7.heap.size := M.below.size
        replace M := M.box zu8_32 38 w7.heap.size rfl
        generalize w7.alloc (.cells zu8_32 38) = w8 at M  ⊢
        generalize eB : w7.heap.size = B8 at M hB_B8  ⊢
        have hE_B8 : w7.heap.size ≤ B8 := Nat.le_of_eq eB
        have hF_B8 : B8 ≤ w7.heap.size := Nat.le_of_eq eB.symm
        clear eB
        replace M : Mm w ([(B8, [.int .u8 0, .int .u8 0, .int .u8 0, .int .u8 0, .int .u8 0, .int .u8 0, .int .u8 0, .int .u8 0, .int .u8 0, .int .u8 0, .int .u8 0, .int .u8 0, .int .u8 0, .int .u8 0, .int .u8 0, .int .u8 0, .int .u8 0, .int .u8 0, .int .u8 0, .int .u8 0, .int .u8 0, .int .u8 0, .int .u8 0, .int .u8 0, .int .u8 0, .int .u8 0, .int .u8 0, .int .u8 0, .int .u8 0, .int .u8 0, .int .u8 0, .int .u8 0]), (A, pcs (smix s b)), (B3, stc (smix s b))]) w8 := M
        refine actL (w' := w8.alloc (.cells zu8_32 38)) (.pointer (some ⟨w8.heap.size, 0, none⟩)) rfl (by kernel_rfl) ?_
        simp only [aP, lI, l0, lS]
        have hB_B9 : w.heap.size ≤ w8.heap.size := M.below.size
        replace M := M.box zu8_32 38 w8.heap.size rfl
        generalize w8.alloc (.cells zu8_32 38) = w9 at M  ⊢
        generalize eB : w8.heap.size = B9 at M hB_B9  ⊢
        have hE_B9 : w8.heap.size ≤ B9 := Nat.le_of_eq eB
        have hF_B9 : B9 ≤ w8.heap.size := Nat.le_of_eq eB.symm
        clear eB
        replace M : Mm w ([(B9, [.int .u8 0, .int .u8 0, .int .u8 0, .int .u8 0, .int .u8 0, .int .u8 0, .int .u8 0, .int .u8 0, .int .u8 0, .int .u8 0, .int .u8 0, .int .u8 0, .int .u8 0, .int .u8 0, .int .u8 0, .int .u8 0, .int .u8 0, .int .u8 0, .int .u8 0, .int .u8 0, .int .u8 0, .int .u8 0, .int .u8 0, .int .u8 0, .int .u8 0, .int .u8 0, .int .u8 0, .int .u8 0, .int .u8 0, .int .u8 0, .int .u8 0, .int .u8 0]), (B8, [.int .u8 0, .int .u8 0, .int .u8 0, .int .u8 0, .int .u8 0, .int .u8 0, .int .u8 0, .int .u8 0, .int .u8 0, .int .u8 0, .int .u8 0, .int .u8 0, .int .u8 0, .int .u8 0, .int .u8 0, .int .u8 0, .int .u8 0, .int .u8 0, .int .u8 0, .int .u8 0, .int .u8 0, .int .u8 0, .int .u8 0, .int .u8 0, .int .u8 0, .int .u8 0, .int .u8 0, .int .u8 0, .int .u8 0, .int .u8 0, .int .u8 0, .int .u8 0]), (A, pcs (smix s b)), (B3, stc (smix s b))]) w9 := M
        replace M := M.swap
        refine skipOpL rfl (storeP (row .u8 32 (kA (smix s b).c 0 (bl []))) B8 0 38 _ _ rfl rfl rfl (M.thereP mS 0 32 (Nat.le_of_ble_eq_true rfl)) (by kernel_rfl) (row_one .u8 32 (kA (smix s b).c 0 (bl [])))) ?_
        simp only [Act.put]
        replace M := M.setAll (row .u8 32 (kA (smix s b).c 0 (bl []))) (by rw [row32]; rfl)
        generalize w9.setCells B8 0 (row .u8 32 (kA (smix s b).c 0 (bl []))) = w10 at M ⊢
        replace M := M.swap
        refine skipOpL rfl (storeP (row .u8 32 (kB (smix s b).c 0 (bl []))) B9 0 38 _ _ rfl rfl rfl (M.thereP mS 0 32 (Nat.le_of_ble_eq_true rfl)) (by kernel_rfl) (row_one .u8 32 (kB (smix s b).c 0 (bl [])))) ?_
        simp only [Act.put]
        replace M := M.setAll (row .u8 32 (kB (smix s b).c 0 (bl []))) (by rw [row32]; rfl)
        generalize w10.setCells B9 0 (row .u8 32 (kB (smix s b).c 0 (bl []))) = w11 at M ⊢
        first | show Exit.then _ _ _ _ _ | show Exit.inBlock _ _ _ _ _
        go_upto_region 42 with fail
        refine wp_region_list ?_
        refine readL (.pointer (some ⟨B3, 0, none⟩)) rfl (by kernel_rfl) ?_
        simp only [aP, lI, l0, lS]
        replace M := M.rot4
        refine callL rfl (fun _ => by kernel_rfl) (rsplit_any w _ B3 _ (smix s b) (smix_w hsw _).c M) ?_
        rintro e w12 ⟨rfl, l⟩
        replace M := M.call l
        clear l
        refine ⟨_, rfl, ?_⟩
        simp only [aP, lI, l0, lS]
        refine readL (.tuple #[.agg (row .u8 32 (kA (smix s b).c 0 (bl []))).toArray, .agg (row .u8 32 (kB (smix s b).c 0 (bl []))).toArray]) rfl (by kernel_rfl) ?_
        simp only [aP, lI, l0, lS]
        refine readL (.agg (row .u8 32 (kA (smix s b).c 0 (bl []))).toArray) rfl (by kernel_rfl) ?_
        simp only [aP, lI, l0, lS]
        refine readL (.agg (row .u8 32 (kB (smix s b).c 0 (bl []))).toArray) rfl (by kernel_rfl) ?_
        simp only [aP, lI, l0, lS]
        refine actL (w' := w12.alloc (.cells zu8_32 38)) (.pointer (some ⟨w12.heap.size, 0, none⟩)) rfl (by kernel_rfl) ?_
        simp only [aP, lI, l0, lS]
        have hB_B13 : w.heap.size ≤ w12.heap.size := M.below.size
        replace M := M.box zu8_32 38 w12.heap.size rfl
        generalize w12.alloc (.cells zu8_32 38) = w13 at M  ⊢
        generalize eB : w12.heap.size = B13 at M hB_B13  ⊢
        have hE_B13 : w12.heap.size ≤ B13 := Nat.le_of_eq eB
        have hF_B13 : B13 ≤ w12.heap.size := Nat.le_of_eq eB.symm
        clear eB
        replace M : Mm w ([(B13, [.int .u8 0, .int .u8 0, .int .u8 0, .int .u8 0, .int .u8 0, .int .u8 0, .int .u8 0, .int .u8 0, .int .u8 0, .int .u8 0, .int .u8 0, .int .u8 0, .int .u8 0, .int .u8 0, .int .u8 0, .int .u8 0, .int .u8 0, .int .u8 0, .int .u8 0, .int .u8 0, .int .u8 0, .int .u8 0, .int .u8 0, .int .u8 0, .int .u8 0, .int .u8 0, .int .u8 0, .int .u8 0, .int .u8 0, .int .u8 0, .int .u8 0, .int .u8 0]), (B3, stc (smix s b)), (B9, row .u8 32 (kB (smix s b).c 0 (bl []))), (B8, row .u8 32 (kA (smix s b).c 0 (bl []))), (A, pcs (smix s b))]) w13 := M
        refine actL (w' := w13.alloc (.cells zu8_32 38)) (.pointer (some ⟨w13.heap.size, 0, none⟩)) rfl (by kernel_rfl) ?_
        simp only [aP, lI, l0, lS]
        have hB_B14 : w.heap.size ≤ w13.heap.size := M.below.size
        replace M := M.box zu8_32 38 w13.heap.size rfl
        generalize w13.alloc (.cells zu8_32 38) = w14 at M  ⊢
        generalize eB : w13.heap.size = B14 at M hB_B14  ⊢
        have hE_B14 : w13.heap.size ≤ B14 := Nat.le_of_eq eB
        have hF_B14 : B14 ≤ w13.heap.size := Nat.le_of_eq eB.symm
        clear eB
        replace M : Mm w ([(B14, [.int .u8 0, .int .u8 0, .int .u8 0, .int .u8 0, .int .u8 0, .int .u8 0, .int .u8 0, .int .u8 0, .int .u8 0, .int .u8 0, .int .u8 0, .int .u8 0, .int .u8 0, .int .u8 0, .int .u8 0, .int .u8 0, .int .u8 0, .int .u8 0, .int .u8 0, .int .u8 0, .int .u8 0, .int .u8 0, .int .u8 0, .int .u8 0, .int .u8 0, .int .u8 0, .int .u8 0, .int .u8 0, .int .u8 0, .int .u8 0, .int .u8 0, .int .u8 0]), (B13, [.int .u8 0, .int .u8 0, .int .u8 0, .int .u8 0, .int .u8 0, .int .u8 0, .int .u8 0, .int .u8 0, .int .u8 0, .int .u8 0, .int .u8 0, .int .u8 0, .int .u8 0, .int .u8 0, .int .u8 0, .int .u8 0, .int .u8 0, .int .u8 0, .int .u8 0, .int .u8 0, .int .u8 0, .int .u8 0, .int .u8 0, .int .u8 0, .int .u8 0, .int .u8 0, .int .u8 0, .int .u8 0, .int .u8 0, .int .u8 0, .int .u8 0, .int .u8 0]), (B3, stc (smix s b)), (B9, row .u8 32 (kB (smix s b).c 0 (bl []))), (B8, row .u8 32 (kA (smix s b).c 0 (bl []))), (A, pcs (smix s b))]) w14 := M
        replace M := M.swap
        refine skipOpL rfl (storeP (row .u8 32 (kA (smix s b).c 0 (bl []))) B13 0 38 _ _ rfl rfl rfl (M.thereP mS 0 32 (Nat.le_of_ble_eq_true rfl)) (by kernel_rfl) (row_one .u8 32 (kA (smix s b).c 0 (bl [])))) ?_
        simp only [Act.put]
        replace M := M.setAll (row .u8 32 (kA (smix s b).c 0 (bl []))) (by rw [row32]; rfl)
        generalize w14.setCells B13 0 (row .u8 32 (kA (smix s b).c 0 (bl []))) = w15 at M ⊢
        replace M := M.swap
        refine skipOpL rfl (storeP (row .u8 32 (kB (smix s b).c 0 (bl []))) B14 0 38 _ _ rfl rfl rfl (M.thereP mS 0 32 (Nat.le_of_ble_eq_true rfl)) (by kernel_rfl) (row_one .u8 32 (kB (smix s b).c 0 (bl [])))) ?_
        simp only [Act.put]
        replace M := M.setAll (row .u8 32 (kB (smix s b).c 0 (bl []))) (by rw [row32]; rfl)
        generalize w15.setCells B14 0 (row .u8 32 (kB (smix s b).c 0 (bl []))) = w16 at M ⊢
        first | show Exit.then _ _ _ _ _ | show Exit.inBlock _ _ _ _ _
        replace M : Mm w [(A, pcs (smix s b)), (B14, row .u8 32 (kB (smix s b).c 0 (bl []))), (B13, row .u8 32 (kA (smix s b).c 0 (bl []))), (B3, stc (smix s b)), (B9, row .u8 32 (kB (smix s b).c 0 (bl []))), (B8, row .u8 32 (kA (smix s b).c 0 (bl [])))] w16 := M.perm (List.perm_middle (l₁ := [(B14, row .u8 32 (kB (smix s b).c 0 (bl []))), (B13, row .u8 32 (kA (smix s b).c 0 (bl []))), (B3, stc (smix s b)), (B9, row .u8 32 (kB (smix s b).c 0 (bl []))), (B8, row .u8 32 (kA (smix s b).c 0 (bl [])))]) (a := (A, pcs (smix s b))) (l₂ := []))
        go_upto_region 43 with fail
        refine wp_region_held_drew (S := fun w' => Mm w [(A, pcs (smix s b)), (B14, row .u8 32 (kB (smix s b).c 0 (bl []))), (B13, row .u8 32 (kA (smix s b).c 0 (bl []))), (B3, stc (smix s b)), (B9, row .u8 32 (kB (smix s b).c 0 (bl []))), (B8, row .u8 32 (kA (smix s b).c 0 (bl [])))] w') (by kernel_rfl) M.drew ?_
        clear M
        intro M
        generalize w16.drew = w17 at M ⊢
        refine readHg (i := 0) (some 149) rfl (.pointer (some ⟨A, 0, none⟩)) rfl rfl (fun _ M => (by kernel_rfl)) M ?_
        simp only [aP, lI, l0, lS]
        refine readHg (i := 2) (some 151) rfl (.pointer (some ⟨B3, 0, none⟩)) rfl rfl (fun _ M => (by kernel_rfl)) M ?_
        simp only [aP, lI, l0, lS]
        refine readHg (i := 3) (some 152) rfl (.pointer (some ⟨B3, 0, none⟩)) rfl rfl (fun _ M => (by kernel_rfl)) M ?_
        simp only [aP, lI, l0, lS]
        refine readHg (i := 4) (some 153) rfl (.pointer (some ⟨B3, 0, none⟩)) rfl rfl (fun _ M => (by kernel_rfl)) M ?_
        simp only [aP, lI, l0, lS]
        refine readHg (i := 5) (some 154) rfl (.agg (row .u8 32 ((smix s b).h)).toArray) rfl rfl (fun _ M => loadN 38 _ ⟨B3, 0, none⟩ (row .u8 32 (smix s b).h) rfl rfl (fun _ => by kernel_rfl) (fun _ => by rw [row32]; kernel_rfl) (M.part (mT _ (mT _ (mT _ mS))) 0 _ (stc_h (smix s b)))) M ?_
        simp only [aP, lI, l0, lS]
        refine callH (i := 1) (some 150) rfl (by kernel_rfl) rfl rfl (fun _ => by kernel_rfl) (hp.hash w _ A _ (smix s b) hg M) ?_
        rintro e w18 ⟨rfl, l⟩
        replace M := M.call l
        clear l
        refine ⟨_, rfl, M, ?_⟩
        simp only [aP, lI, l0, lS]
        refine readHg (i := 6) (some 155) rfl (.bool false) rfl rfl (fun _ M => neqRow 32 .u8 ((smix s b).h) ((smix s b).h) 38 5 _ _ _ rfl rfl rfl Tryz.underlying38 Tryz.underlying5 (fun _ => by kernel_rfl) (by kernel_rfl) (fun _ _ => rfl) _) M ?_
        simp only [aP, lI, l0, lS]
        refine readHg (i := 7) (some 156) rfl (.bool false) rfl rfl (fun _ M => (by kernel_rfl)) M ?_
        simp only [aP, lI, l0, lS]
        refine readHg (i := 8) (some 157) rfl (.agg (row .u8 32 (kA (smix s b).c 0 (bl []))).toArray) rfl rfl (fun _ M => loadN 38 _ ⟨B8, 0, none⟩ (row .u8 32 (kA (smix s b).c 0 (bl []))) rfl rfl (fun _ => by kernel_rfl) (fun _ => by rw [row32]; kernel_rfl) (M.part (mT _ (mT _ (mT _ (mT _ (mT _ mS))))) 0 _ (by rw [List.drop_zero, List.take_length]))) M ?_
        simp only [aP, lI, l0, lS]
        refine readHg (i := 9) (some 158) rfl (.agg (row .u8 32 (kA (smix s b).c 0 (bl []))).toArray) rfl rfl (fun _ M => loadN 38 _ ⟨B13, 0, none⟩ (row .u8 32 (kA (smix s b).c 0 (bl []))) rfl rfl (fun _ => by kernel_rfl) (fun _ => by rw [row32]; kernel_rfl) (M.part (mT _ (mT _ mS)) 0 _ (by rw [List.drop_zero, List.take_length]))) M ?_
        simp only [aP, lI, l0, lS]
        refine readHg (i := 10) (some 159) rfl (.bool false) rfl rfl (fun _ M => neqRow 32 .u8 (kA (smix s b).c 0 (bl [])) (kA (smix s b).c 0 (bl [])) 38 5 _ _ _ rfl rfl rfl Tryz.underlying38 Tryz.underlying5 (fun _ => by kernel_rfl) (by kernel_rfl) (fun _ _ => rfl) _) M ?_
        simp only [aP, lI, l0, lS]
        refine readHg (i := 11) (some 160) rfl (.bool false) rfl rfl (fun _ M => (by kernel_rfl)) M ?_
        simp only [aP, lI, l0, lS]
        refine readHg (i := 12) (some 161) rfl (.bool false) rfl rfl (fun _ M => (by kernel_rfl)) M ?_
        simp only [aP, lI, l0, lS]
        refine readHg (i := 13) (some 162) rfl (.agg (row .u8 32 (kB (smix s b).c 0 (bl []))).toArray) rfl rfl (fun _ M => loadN 38 _ ⟨B9, 0, none⟩ (row .u8 32 (kB (smix s b).c 0 (bl []))) rfl rfl (fun _ => by kernel_rfl) (fun _ => by rw [row32]; kernel_rfl) (M.part (mT _ (mT _ (mT _ (mT _ mS)))) 0 _ (by rw [List.drop_zero, List.take_length]))) M ?_
        simp only [aP, lI, l0, lS]
        refine readHg (i := 14) (some 163) rfl (.agg (row .u8 32 (kB (smix s b).c 0 (bl []))).toArray) rfl rfl (fun _ M => loadN 38 _ ⟨B14, 0, none⟩ (row .u8 32 (kB (smix s b).c 0 (bl []))) rfl rfl (fun _ => by kernel_rfl) (fun _ => by rw [row32]; kernel_rfl) (M.part (mT _ mS) 0 _ (by rw [List.drop_zero, List.take_length]))) M ?_
        simp only [aP, lI, l0, lS]
        refine readHg (i := 15) (some 164) rfl (.bool false) rfl rfl (fun _ M => neqRow 32 .u8 (kB (smix s b).c 0 (bl [])) (kB (smix s b).c 0 (bl [])) 38 5 _ _ _ rfl rfl rfl Tryz.underlying38 Tryz.underlying5 (fun _ => by kernel_rfl) (by kernel_rfl) (fun _ _ => rfl) _) M ?_
        simp only [aP, lI, l0, lS]
        refine readHg (i := 16) (some 165) rfl (.bool false) rfl rfl (fun _ M => (by kernel_rfl)) M ?_
        simp only [aP, lI, l0, lS]
        refine wpAnyH_done (by kernel_rfl) ?_ _
        first | show Exit.then _ _ _ _ _ | show Exit.inBlock _ _ _ _ _
        replace M := M.rot4
        replace M := M.swap
        replace M : Mm w [(A, pcs (smix s b)), (B3, stc (smix s b))] w18 := M.sub _ (List.Sublist.cons_cons _ (List.Sublist.cons_cons _ (List.nil_sublist _)))
        have HS := show Hid _ from M
        clear M
        go_wp2
        go_roundw
        case rel => first | exact ⟨j + 1, A, smix s b, by omega, by omega, by go_num, rfl, smix_w hsw _, (by show s.n ≤ j + 1; omega), HS.out⟩ | ((repeat apply Exists.intro); refine ⟨⟨j + 1, A, smix s b, by omega, by omega, ?_, rfl, smix_w hsw _, (by show s.n ≤ j + 1; omega), HS.out⟩, rfl, rfl⟩ <;> first | rfl | go_num)
        case measure => simp [intOf]; omega
      · go_upto_region 11 with fail
        refine wp_region_list ?_
        refine readL (.bool false) rfl (eqlI .i64 _ _ _ _ _ _ rfl rfl rfl false (by rw [hkd]; rfl) _) ?_
        simp only [aP, lI, l0, lS]
        refine readL (.bool false) rfl (by kernel_rfl) ?_
        simp only [aP, lI, l0, lS]
        first | show Exit.then _ _ _ _ _ | show Exit.inBlock _ _ _ _ _
        go_upto_region 14 with fail
        refine wp_region_list ?_
        refine readL (.bool true) rfl (eqlI .i64 _ _ _ _ _ _ rfl rfl rfl true (by rw [hkd]; rfl) _) ?_
        simp only [aP, lI, l0, lS]
        refine readL (.bool true) rfl (by kernel_rfl) ?_
        simp only [aP, lI, l0, lS]
        first | show Exit.then _ _ _ _ _ | show Exit.inBlock _ _ _ _ _
        go_upto_region 15 with fail
        refine wp_region_list ?_
        refine readL (.pointer (some ⟨A, 0, none⟩)) rfl (by kernel_rfl) ?_
        simp only [aP, lI, l0, lS]
        refine readL (.slice bp b.length bc) rfl (by kernel_rfl) ?_
        simp only [aP, lI, l0, lS]
        refine callL rfl (fun _ => by kernel_rfl) (hp.key w _ A _ s hg hsw bp bc b (Nat.le_trans hop.len (by decide)) hop.le hop.nil hop.byts M ((SrcA.of_old hop.src (X := [A]) (fun b hb => by obtain rfl := List.mem_singleton.1 hb; assumption)).off (Off.of_below M.below))) ?_
        rintro e w19 ⟨rfl, M', o1⟩
        clear M
        have M := M'
        clear M'
        clear o1
        refine ⟨_, rfl, ?_⟩
        simp only [aP, lI, l0, lS]
        first | show Exit.then _ _ _ _ _ | show Exit.inBlock _ _ _ _ _
        go_upto_region 16 with fail
        refine wp_region_list ?_
        refine readL (.pointer (some ⟨B3, 0, none⟩)) rfl (by kernel_rfl) ?_
        simp only [aP, lI, l0, lS]
        refine readL (.slice bp b.length bc) rfl (by kernel_rfl) ?_
        simp only [aP, lI, l0, lS]
        replace M := M.swap
        refine callL rfl (fun _ => by kernel_rfl) (rkey_any w _ B3 _ s hsw.c bp bc b (Nat.le_trans hbs (by decide)) hop.nil hop.byts M ((SrcA.of_old hop.src (X := [B3]) (fun b hb => by obtain rfl := List.mem_singleton.1 hb; assumption)).off (Off.of_below M.below))) ?_
        rintro e w20 ⟨rfl, M', o1⟩
        clear M
        have M := M'
        clear M'
        clear o1
        refine ⟨_, rfl, ?_⟩
        simp only [aP, lI, l0, lS]
        first | show Exit.then _ _ _ _ _ | show Exit.inBlock _ _ _ _ _
        replace M := M.swap
        go_upto_region 41 with fail
        refine wp_region_list ?_
        refine readL (.pointer (some ⟨A, 0, none⟩)) rfl (by kernel_rfl) ?_
        simp only [aP, lI, l0, lS]
        refine callL rfl (fun _ => by kernel_rfl) (hp.split w _ A _ (skey s b) hg (skey_w hsw _) M) ?_
        rintro e w21 ⟨rfl, l⟩
        replace M := M.call l
        clear l
        refine ⟨_, rfl, ?_⟩
        simp only [aP, lI, l0, lS]
        refine readL (.tuple #[.agg (row .u8 32 (kA (skey s b).c 0 (bl []))).toArray, .agg (row .u8 32 (kB (skey s b).c 0 (bl []))).toArray]) rfl (by kernel_rfl) ?_
        simp only [aP, lI, l0, lS]
        refine readL (.agg (row .u8 32 (kA (skey s b).c 0 (bl []))).toArray) rfl (by kernel_rfl) ?_
        simp only [aP, lI, l0, lS]
        refine readL (.agg (row .u8 32 (kB (skey s b).c 0 (bl []))).toArray) rfl (by kernel_rfl) ?_
        simp only [aP, lI, l0, lS]
        refine actL (w' := w21.alloc (.cells zu8_32 38)) (.pointer (some ⟨w21.heap.size, 0, none⟩)) rfl (by kernel_rfl) ?_
        simp only [aP, lI, l0, lS]
        have hB_B22 : w.heap.size ≤ w21.heap.size := M.below.size
        replace M := M.box zu8_32 38 w21.heap.size rfl
        generalize w21.alloc (.cells zu8_32 38) = w22 at M  ⊢
        generalize eB : w21.heap.size = B22 at M hB_B22  ⊢
        have hE_B22 : w21.heap.size ≤ B22 := Nat.le_of_eq eB
        have hF_B22 : B22 ≤ w21.heap.size := Nat.le_of_eq eB.symm
        clear eB
        replace M : Mm w ([(B22, [.int .u8 0, .int .u8 0, .int .u8 0, .int .u8 0, .int .u8 0, .int .u8 0, .int .u8 0, .int .u8 0, .int .u8 0, .int .u8 0, .int .u8 0, .int .u8 0, .int .u8 0, .int .u8 0, .int .u8 0, .int .u8 0, .int .u8 0, .int .u8 0, .int .u8 0, .int .u8 0, .int .u8 0, .int .u8 0, .int .u8 0, .int .u8 0, .int .u8 0, .int .u8 0, .int .u8 0, .int .u8 0, .int .u8 0, .int .u8 0, .int .u8 0, .int .u8 0]), (A, pcs (skey s b)), (B3, stc (skey s b))]) w22 := M
        refine actL (w' := w22.alloc (.cells zu8_32 38)) (.pointer (some ⟨w22.heap.size, 0, none⟩)) rfl (by kernel_rfl) ?_
        simp only [aP, lI, l0, lS]
        have hB_B23 : w.heap.size ≤ w22.heap.size := M.below.size
        replace M := M.box zu8_32 38 w22.heap.size rfl
        generalize w22.alloc (.cells zu8_32 38) = w23 at M  ⊢
        generalize eB : w22.heap.size = B23 at M hB_B23  ⊢
        have hE_B23 : w22.heap.size ≤ B23 := Nat.le_of_eq eB
        have hF_B23 : B23 ≤ w22.heap.size := Nat.le_of_eq eB.symm
        clear eB
        replace M : Mm w ([(B23, [.int .u8 0, .int .u8 0, .int .u8 0, .int .u8 0, .int .u8 0, .int .u8 0, .int .u8 0, .int .u8 0, .int .u8 0, .int .u8 0, .int .u8 0, .int .u8 0, .int .u8 0, .int .u8 0, .int .u8 0, .int .u8 0, .int .u8 0, .int .u8 0, .int .u8 0, .int .u8 0, .int .u8 0, .int .u8 0, .int .u8 0, .int .u8 0, .int .u8 0, .int .u8 0, .int .u8 0, .int .u8 0, .int .u8 0, .int .u8 0, .int .u8 0, .int .u8 0]), (B22, [.int .u8 0, .int .u8 0, .int .u8 0, .int .u8 0, .int .u8 0, .int .u8 0, .int .u8 0, .int .u8 0, .int .u8 0, .int .u8 0, .int .u8 0, .int .u8 0, .int .u8 0, .int .u8 0, .int .u8 0, .int .u8 0, .int .u8 0, .int .u8 0, .int .u8 0, .int .u8 0, .int .u8 0, .int .u8 0, .int .u8 0, .int .u8 0, .int .u8 0, .int .u8 0, .int .u8 0, .int .u8 0, .int .u8 0, .int .u8 0, .int .u8 0, .int .u8 0]), (A, pcs (skey s b)), (B3, stc (skey s b))]) w23 := M
        replace M := M.swap
        refine skipOpL rfl (storeP (row .u8 32 (kA (skey s b).c 0 (bl []))) B22 0 38 _ _ rfl rfl rfl (M.thereP mS 0 32 (Nat.le_of_ble_eq_true rfl)) (by kernel_rfl) (row_one .u8 32 (kA (skey s b).c 0 (bl [])))) ?_
        simp only [Act.put]
        replace M := M.setAll (row .u8 32 (kA (skey s b).c 0 (bl []))) (by rw [row32]; rfl)
        generalize w23.setCells B22 0 (row .u8 32 (kA (skey s b).c 0 (bl []))) = w24 at M ⊢
        replace M := M.swap
        refine skipOpL rfl (storeP (row .u8 32 (kB (skey s b).c 0 (bl []))) B23 0 38 _ _ rfl rfl rfl (M.thereP mS 0 32 (Nat.le_of_ble_eq_true rfl)) (by kernel_rfl) (row_one .u8 32 (kB (skey s b).c 0 (bl [])))) ?_
        simp only [Act.put]
        replace M := M.setAll (row .u8 32 (kB (skey s b).c 0 (bl []))) (by rw [row32]; rfl)
        generalize w24.setCells B23 0 (row .u8 32 (kB (skey s b).c 0 (bl []))) = w25 at M ⊢
        first | show Exit.then _ _ _ _ _ | show Exit.inBlock _ _ _ _ _
        go_upto_region 42 with fail
        refine wp_region_list ?_
        refine readL (.pointer (some ⟨B3, 0, none⟩)) rfl (by kernel_rfl) ?_
        simp only [aP, lI, l0, lS]
        replace M := M.rot4
        refine callL rfl (fun _ => by kernel_rfl) (rsplit_any w _ B3 _ (skey s b) (skey_w hsw _).c M) ?_
        rintro e w26 ⟨rfl, l⟩
        replace M := M.call l
        clear l
        refine ⟨_, rfl, ?_⟩
        simp only [aP, lI, l0, lS]
        refine readL (.tuple #[.agg (row .u8 32 (kA (skey s b).c 0 (bl []))).toArray, .agg (row .u8 32 (kB (skey s b).c 0 (bl []))).toArray]) rfl (by kernel_rfl) ?_
        simp only [aP, lI, l0, lS]
        refine readL (.agg (row .u8 32 (kA (skey s b).c 0 (bl []))).toArray) rfl (by kernel_rfl) ?_
        simp only [aP, lI, l0, lS]
        refine readL (.agg (row .u8 32 (kB (skey s b).c 0 (bl []))).toArray) rfl (by kernel_rfl) ?_
        simp only [aP, lI, l0, lS]
        refine actL (w' := w26.alloc (.cells zu8_32 38)) (.pointer (some ⟨w26.heap.size, 0, none⟩)) rfl (by kernel_rfl) ?_
        simp only [aP, lI, l0, lS]
        have hB_B27 : w.heap.size ≤ w26.heap.size := M.below.size
        replace M := M.box zu8_32 38 w26.heap.size rfl
        generalize w26.alloc (.cells zu8_32 38) = w27 at M  ⊢
        generalize eB : w26.heap.size = B27 at M hB_B27  ⊢
        have hE_B27 : w26.heap.size ≤ B27 := Nat.le_of_eq eB
        have hF_B27 : B27 ≤ w26.heap.size := Nat.le_of_eq eB.symm
        clear eB
        replace M : Mm w ([(B27, [.int .u8 0, .int .u8 0, .int .u8 0, .int .u8 0, .int .u8 0, .int .u8 0, .int .u8 0, .int .u8 0, .int .u8 0, .int .u8 0, .int .u8 0, .int .u8 0, .int .u8 0, .int .u8 0, .int .u8 0, .int .u8 0, .int .u8 0, .int .u8 0, .int .u8 0, .int .u8 0, .int .u8 0, .int .u8 0, .int .u8 0, .int .u8 0, .int .u8 0, .int .u8 0, .int .u8 0, .int .u8 0, .int .u8 0, .int .u8 0, .int .u8 0, .int .u8 0]), (B3, stc (skey s b)), (B23, row .u8 32 (kB (skey s b).c 0 (bl []))), (B22, row .u8 32 (kA (skey s b).c 0 (bl []))), (A, pcs (skey s b))]) w27 := M
        refine actL (w' := w27.alloc (.cells zu8_32 38)) (.pointer (some ⟨w27.heap.size, 0, none⟩)) rfl (by kernel_rfl) ?_
        simp only [aP, lI, l0, lS]
        have hB_B28 : w.heap.size ≤ w27.heap.size := M.below.size
        replace M := M.box zu8_32 38 w27.heap.size rfl
        generalize w27.alloc (.cells zu8_32 38) = w28 at M  ⊢
        generalize eB : w27.heap.size = B28 at M hB_B28  ⊢
        have hE_B28 : w27.heap.size ≤ B28 := Nat.le_of_eq eB
        have hF_B28 : B28 ≤ w27.heap.size := Nat.le_of_eq eB.symm
        clear eB
        replace M : Mm w ([(B28, [.int .u8 0, .int .u8 0, .int .u8 0, .int .u8 0, .int .u8 0, .int .u8 0, .int .u8 0, .int .u8 0, .int .u8 0, .int .u8 0, .int .u8 0, .int .u8 0, .int .u8 0, .int .u8 0, .int .u8 0, .int .u8 0, .int .u8 0, .int .u8 0, .int .u8 0, .int .u8 0, .int .u8 0, .int .u8 0, .int .u8 0, .int .u8 0, .int .u8 0, .int .u8 0, .int .u8 0, .int .u8 0, .int .u8 0, .int .u8 0, .int .u8 0, .int .u8 0]), (B27, [.int .u8 0, .int .u8 0, .int .u8 0, .int .u8 0, .int .u8 0, .int .u8 0, .int .u8 0, .int .u8 0, .int .u8 0, .int .u8 0, .int .u8 0, .int .u8 0, .int .u8 0, .int .u8 0, .int .u8 0, .int .u8 0, .int .u8 0, .int .u8 0, .int .u8 0, .int .u8 0, .int .u8 0, .int .u8 0, .int .u8 0, .int .u8 0, .int .u8 0, .int .u8 0, .int .u8 0, .int .u8 0, .int .u8 0, .int .u8 0, .int .u8 0, .int .u8 0]), (B3, stc (skey s b)), (B23, row .u8 32 (kB (skey s b).c 0 (bl []))), (B22, row .u8 32 (kA (skey s b).c 0 (bl []))), (A, pcs (skey s b))]) w28 := M
        replace M := M.swap
        refine skipOpL rfl (storeP (row .u8 32 (kA (skey s b).c 0 (bl []))) B27 0 38 _ _ rfl rfl rfl (M.thereP mS 0 32 (Nat.le_of_ble_eq_true rfl)) (by kernel_rfl) (row_one .u8 32 (kA (skey s b).c 0 (bl [])))) ?_
        simp only [Act.put]
        replace M := M.setAll (row .u8 32 (kA (skey s b).c 0 (bl []))) (by rw [row32]; rfl)
        generalize w28.setCells B27 0 (row .u8 32 (kA (skey s b).c 0 (bl []))) = w29 at M ⊢
        replace M := M.swap
        refine skipOpL rfl (storeP (row .u8 32 (kB (skey s b).c 0 (bl []))) B28 0 38 _ _ rfl rfl rfl (M.thereP mS 0 32 (Nat.le_of_ble_eq_true rfl)) (by kernel_rfl) (row_one .u8 32 (kB (skey s b).c 0 (bl [])))) ?_
        simp only [Act.put]
        replace M := M.setAll (row .u8 32 (kB (skey s b).c 0 (bl []))) (by rw [row32]; rfl)
        generalize w29.setCells B28 0 (row .u8 32 (kB (skey s b).c 0 (bl []))) = w30 at M ⊢
        first | show Exit.then _ _ _ _ _ | show Exit.inBlock _ _ _ _ _
        replace M : Mm w [(A, pcs (skey s b)), (B28, row .u8 32 (kB (skey s b).c 0 (bl []))), (B27, row .u8 32 (kA (skey s b).c 0 (bl []))), (B3, stc (skey s b)), (B23, row .u8 32 (kB (skey s b).c 0 (bl []))), (B22, row .u8 32 (kA (skey s b).c 0 (bl [])))] w30 := M.perm (List.perm_middle (l₁ := [(B28, row .u8 32 (kB (skey s b).c 0 (bl []))), (B27, row .u8 32 (kA (skey s b).c 0 (bl []))), (B3, stc (skey s b)), (B23, row .u8 32 (kB (skey s b).c 0 (bl []))), (B22, row .u8 32 (kA (skey s b).c 0 (bl [])))]) (a := (A, pcs (skey s b))) (l₂ := []))
        go_upto_region 43 with fail
        refine wp_region_held_drew (S := fun w' => Mm w [(A, pcs (skey s b)), (B28, row .u8 32 (kB (skey s b).c 0 (bl []))), (B27, row .u8 32 (kA (skey s b).c 0 (bl []))), (B3, stc (skey s b)), (B23, row .u8 32 (kB (skey s b).c 0 (bl []))), (B22, row .u8 32 (kA (skey s b).c 0 (bl [])))] w') (by kernel_rfl) M.drew ?_
        clear M
        intro M
        generalize w30.drew = w31 at M ⊢
        refine readHg (i := 0) (some 149) rfl (.pointer (some ⟨A, 0, none⟩)) rfl rfl (fun _ M => (by kernel_rfl)) M ?_
        simp only [aP, lI, l0, lS]
        refine readHg (i := 2) (some 151) rfl (.pointer (some ⟨B3, 0, none⟩)) rfl rfl (fun _ M => (by kernel_rfl)) M ?_
        simp only [aP, lI, l0, lS]
        refine readHg (i := 3) (some 152) rfl (.pointer (some ⟨B3, 0, none⟩)) rfl rfl (fun _ M => (by kernel_rfl)) M ?_
        simp only [aP, lI, l0, lS]
        refine readHg (i := 4) (some 153) rfl (.pointer (some ⟨B3, 0, none⟩)) rfl rfl (fun _ M => (by kernel_rfl)) M ?_
        simp only [aP, lI, l0, lS]
        refine readHg (i := 5) (some 154) rfl (.agg (row .u8 32 ((skey s b).h)).toArray) rfl rfl (fun _ M => loadN 38 _ ⟨B3, 0, none⟩ (row .u8 32 (skey s b).h) rfl rfl (fun _ => by kernel_rfl) (fun _ => by rw [row32]; kernel_rfl) (M.part (mT _ (mT _ (mT _ mS))) 0 _ (stc_h (skey s b)))) M ?_
        simp only [aP, lI, l0, lS]
        refine callH (i := 1) (some 150) rfl (by kernel_rfl) rfl rfl (fun _ => by kernel_rfl) (hp.hash w _ A _ (skey s b) hg M) ?_
        rintro e w32 ⟨rfl, l⟩
        replace M := M.call l
        clear l
        refine ⟨_, rfl, M, ?_⟩
        simp only [aP, lI, l0, lS]
        refine readHg (i := 6) (some 155) rfl (.bool false) rfl rfl (fun _ M => neqRow 32 .u8 ((skey s b).h) ((skey s b).h) 38 5 _ _ _ rfl rfl rfl Tryz.underlying38 Tryz.underlying5 (fun _ => by kernel_rfl) (by kernel_rfl) (fun _ _ => rfl) _) M ?_
        simp only [aP, lI, l0, lS]
        refine readHg (i := 7) (some 156) rfl (.bool false) rfl rfl (fun _ M => (by kernel_rfl)) M ?_
        simp only [aP, lI, l0, lS]
        refine readHg (i := 8) (some 157) rfl (.agg (row .u8 32 (kA (skey s b).c 0 (bl []))).toArray) rfl rfl (fun _ M => loadN 38 _ ⟨B22, 0, none⟩ (row .u8 32 (kA (skey s b).c 0 (bl []))) rfl rfl (fun _ => by kernel_rfl) (fun _ => by rw [row32]; kernel_rfl) (M.part (mT _ (mT _ (mT _ (mT _ (mT _ mS))))) 0 _ (by rw [List.drop_zero, List.take_length]))) M ?_
        simp only [aP, lI, l0, lS]
        refine readHg (i := 9) (some 158) rfl (.agg (row .u8 32 (kA (skey s b).c 0 (bl []))).toArray) rfl rfl (fun _ M => loadN 38 _ ⟨B27, 0, none⟩ (row .u8 32 (kA (skey s b).c 0 (bl []))) rfl rfl (fun _ => by kernel_rfl) (fun _ => by rw [row32]; kernel_rfl) (M.part (mT _ (mT _ mS)) 0 _ (by rw [List.drop_zero, List.take_length]))) M ?_
        simp only [aP, lI, l0, lS]
        refine readHg (i := 10) (some 159) rfl (.bool false) rfl rfl (fun _ M => neqRow 32 .u8 (kA (skey s b).c 0 (bl [])) (kA (skey s b).c 0 (bl [])) 38 5 _ _ _ rfl rfl rfl Tryz.underlying38 Tryz.underlying5 (fun _ => by kernel_rfl) (by kernel_rfl) (fun _ _ => rfl) _) M ?_
        simp only [aP, lI, l0, lS]
        refine readHg (i := 11) (some 160) rfl (.bool false) rfl rfl (fun _ M => (by kernel_rfl)) M ?_
        simp only [aP, lI, l0, lS]
        refine readHg (i := 12) (some 161) rfl (.bool false) rfl rfl (fun _ M => (by kernel_rfl)) M ?_
        simp only [aP, lI, l0, lS]
        refine readHg (i := 13) (some 162) rfl (.agg (row .u8 32 (kB (skey s b).c 0 (bl []))).toArray) rfl rfl (fun _ M => loadN 38 _ ⟨B23, 0, none⟩ (row .u8 32 (kB (skey s b).c 0 (bl []))) rfl rfl (fun _ => by kernel_rfl) (fun _ => by rw [row32]; kernel_rfl) (M.part (mT _ (mT _ (mT _ (mT _ mS)))) 0 _ (by rw [List.drop_zero, List.take_length]))) M ?_
        simp only [aP, lI, l0, lS]
        refine readHg (i := 14) (some 163) rfl (.agg (row .u8 32 (kB (skey s b).c 0 (bl []))).toArray) rfl rfl (fun _ M => loadN 38 _ ⟨B28, 0, none⟩ (row .u8 32 (kB (skey s b).c 0 (bl []))) rfl rfl (fun _ => by kernel_rfl) (fun _ => by rw [row32]; kernel_rfl) (M.part (mT _ mS) 0 _ (by rw [List.drop_zero, List.take_length]))) M ?_
        simp only [aP, lI, l0, lS]
        refine readHg (i := 15) (some 164) rfl (.bool false) rfl rfl (fun _ M => neqRow 32 .u8 (kB (skey s b).c 0 (bl [])) (kB (skey s b).c 0 (bl [])) 38 5 _ _ _ rfl rfl rfl Tryz.underlying38 Tryz.underlying5 (fun _ => by kernel_rfl) (by kernel_rfl) (fun _ _ => rfl) _) M ?_
        simp only [aP, lI, l0, lS]
        refine readHg (i := 16) (some 165) rfl (.bool false) rfl rfl (fun _ M => (by kernel_rfl)) M ?_
        simp only [aP, lI, l0, lS]
        refine wpAnyH_done (by kernel_rfl) ?_ _
        first | show Exit.then _ _ _ _ _ | show Exit.inBlock _ _ _ _ _
        replace M := M.rot4
        replace M := M.swap
        replace M : Mm w [(A, pcs (skey s b)), (B3, stc (skey s b))] w32 := M.sub _ (List.Sublist.cons_cons _ (List.Sublist.cons_cons _ (List.nil_sublist _)))
        have HS := show Hid _ from M
        clear M
        go_wp2
        go_roundw
        case rel => first | exact ⟨j + 1, A, skey s b, by omega, by omega, by go_num, rfl, skey_w hsw _, Nat.zero_le _, HS.out⟩ | ((repeat apply Exists.intro); refine ⟨⟨j + 1, A, skey s b, by omega, by omega, ?_, rfl, skey_w hsw _, Nat.zero_le _, HS.out⟩, rfl, rfl⟩ <;> first | rfl | go_num)
        case measure => simp [intOf]; omega
      · go_upto_region 11 with fail
        refine wp_region_list ?_
        refine readL (.bool false) rfl (eqlI .i64 _ _ _ _ _ _ rfl rfl rfl false (by rw [hkd]; rfl) _) ?_
        simp only [aP, lI, l0, lS]
        refine readL (.bool false) rfl (by kernel_rfl) ?_
        simp only [aP, lI, l0, lS]
        first | show Exit.then _ _ _ _ _ | show Exit.inBlock _ _ _ _ _
        go_upto_region 14 with fail
        refine wp_region_list ?_
        refine readL (.bool false) rfl (eqlI .i64 _ _ _ _ _ _ rfl rfl rfl false (by rw [hkd]; rfl) _) ?_
        simp only [aP, lI, l0, lS]
        refine readL (.bool false) rfl (by kernel_rfl) ?_
        simp only [aP, lI, l0, lS]
        first | show Exit.then _ _ _ _ _ | show Exit.inBlock _ _ _ _ _
        go_upto_region 17 with fail
        refine wp_region_list ?_
        refine readL (.bool true) rfl (eqlI .i64 _ _ _ _ _ _ rfl rfl rfl true (by rw [hkd]; rfl) _) ?_
        simp only [aP, lI, l0, lS]
        refine readL (.bool true) rfl (by kernel_rfl) ?_
        simp only [aP, lI, l0, lS]
        first | show Exit.then _ _ _ _ _ | show Exit.inBlock _ _ _ _ _
        have hz_A := M.lt mS
        have hz_Y := M.lt (mT _ mS)
        have hw0 := M.below.size
        go_upto_region 18 with fail
        refine wp_region_list ?_
        refine actL (w' := w4.alloc (.cells #[] 5)) (.slice (some ⟨w4.heap.size, 0, none⟩) 0 0) rfl (by kernel_rfl) ?_
        simp only [aP, lI, l0, lS]
        have O_1 : OwnL (w4.alloc (.cells #[] 5)) w4.heap.size [] (.slice (some ⟨w4.heap.size, 0, none⟩) 0 0) := Own.lit w4 w4.heap.size 5 .u8 0 (bl []) (Nat.le_refl _) (by unfold maxLen; omega)
        have hlb := (Below.refl w4.heap.size w4).alloc (Nat.le_refl _) (.cells #[] 5)
        replace M := M.call hlb
        have hwa := hlb.size
        clear hlb
        generalize w4.alloc (.cells #[] 5) = w33 at M O_1 hwa ⊢
        generalize (some ⟨w4.heap.size, 0, none⟩ : Option Addr) = p1 at O_1 ⊢
        refine readL (.slice bp b.length bc) rfl (by kernel_rfl) ?_
        simp only [aP, lI, l0, lS]
        obtain ⟨v, w34, hr, O_3, hgr, _⟩ := run_append_Own (P := Tryz.prog) (ty := 28) Tryz.underlying28 one8 O_1 bp b.length bc (bl b) (hop.src.below M.below (Nat.le_refl _)) hop.nil (by rw [List.length_nil]; unfold maxLen; omega) (by rw [List.length_nil]; omega) hwa
        replace M := M.grown hgr w4.heap.size (fun p hp => by simp only [List.mem_cons, List.not_mem_nil, or_false] at hp; rcases hp with rfl | rfl <;> assumption) hw0 hwa (fun b hb => (World.ownsRow.lt O_1 b hb).1)
        replace O_3 : OwnL w34 w4.heap.size b v := OwnL.app (a := []) O_3
        refine actL v rfl (appendOp _ _ 28 _ _ _ rfl rfl rfl hr) ?_
        simp only [aP, lI, l0, lS]
        clear hr hgr O_1
        obtain ⟨op, oc, rfl, hoc, _⟩ := O_3.bytes
        have hon := O_3.nilCap
        refine readL (.slice op b.length oc) rfl (by kernel_rfl) ?_
        simp only [aP, lI, l0, lS]
        first | show Exit.then _ _ _ _ _ | show Exit.inBlock _ _ _ _ _
        obtain ⟨ex, hex, M'⟩ : ∃ ex, Rest12 (.slice op b.length oc) b.length w34.heap.size ex ∧ Mm w ((A, pcs s) :: (B3, stc s) :: ex) w34 := by
          by_cases h0 : 0 < b.length
          · obtain ⟨g, cg, hv, hg1, hg2, Hg⟩ := Own.has O_3 h0
            refine ⟨[(g, row .u8 b.length (bl b))], fun _ => ⟨g, cg, _, hv, rfl, row_length _ _ _, hg2⟩, ?_⟩
            exact (M.ofHas Hg (by omega) hg2 (fun p hp => by simp only [List.mem_cons, List.not_mem_nil, or_false] at hp; rcases hp with rfl | rfl <;> (simp only; omega))).perm (List.perm_append_comm (l₁ := [(g, row .u8 b.length (bl b))]) (l₂ := [(A, pcs s), (B3, stc s)]))
          · exact ⟨[], fun h => absurd h h0, M⟩
        clear M
        have M := M'
        clear M'
        have A_own : SrcA [A] w34 op b.length (bl b) := SrcA.of_own O_3 (fun x hx => by obtain rfl := List.mem_singleton.1 hx; exact hz_A)
        clear O_3
        go_upto_region 19 with fail
        refine wp_region_list ?_
        refine readL (.pointer (some ⟨A, 0, none⟩)) rfl (by kernel_rfl) ?_
        simp only [aP, lI, l0, lS]
        refine readL (.slice op b.length oc) rfl (by kernel_rfl) ?_
        simp only [aP, lI, l0, lS]
        have hlt_O_35_A := M.lt mS
        have hlt_O_35_B3 := M.lt (mT _ mS)
        refine callL rfl (fun _ => by kernel_rfl) (hp.sel w _ A _ s hg hsw (by omega) op oc b (Nat.le_trans hop.len (by decide)) hoc hon hop.byts M A_own) ?_
        rintro e w35 ⟨⟨v_35, rfl, O_35⟩, M', o1⟩
        clear M
        have M := M'
        clear M'
        have hsz_35 := o1.size
        clear o1
        refine ⟨_, rfl, ?_⟩
        obtain ⟨p35, c35, rfl, hcc_35, hnn_35, _, _⟩ := id O_35
        replace O_35 : NewF w35 w34.heap.size (sout s b).length (bl (sout s b)) (.slice p35 (sout s b).length c35) := O_35
        simp only [aP, lI, l0, lS]
        refine readL (.slice p35 ((sout s b).length) c35) rfl (by kernel_rfl) ?_
        simp only [aP, lI, l0, lS]
        first | show Exit.then _ _ _ _ _ | show Exit.inBlock _ _ _ _ _
        clear A_own
        have hbx : w34.heap.size ≤ w35.heap.size := hsz_35
        go_upto_region 20 with fail
        refine wp_region_list ?_
        refine readL (.pointer (some ⟨B3, 0, none⟩)) rfl (by kernel_rfl) ?_
        simp only [aP, lI, l0, lS]
        refine readL (.slice bp b.length bc) rfl (by kernel_rfl) ?_
        simp only [aP, lI, l0, lS]
        replace M := M.swap
        have hlt_O_36_B3 := M.lt mS
        have hlt_O_36_A := M.lt (mT _ mS)
        refine callL rfl (fun _ => by kernel_rfl) (rseal12_any w _ B3 _ s hsw (by omega) bp bc b (Nat.le_trans hbs (by decide)) hop.nil hop.byts M ((SrcA.of_old hop.src (X := [B3]) (fun b hb => by obtain rfl := List.mem_singleton.1 hb; assumption)).off (Off.of_below M.below))) ?_
        rintro e w36 ⟨⟨v_36, rfl, O_36⟩, M', o1⟩
        clear M
        have M := M'
        clear M'
        replace O_35 := NewF.off O_35 o1 (fun b hb => by obtain rfl := List.mem_singleton.1 hb; exact hlt_O_35_B3)
        clear o1
        refine ⟨_, rfl, ?_⟩
        replace O_36 := NewF.of_own O_36
        obtain ⟨p36, c36, rfl, hcc_36, hnn_36, _, _⟩ := id O_36
        replace O_36 : NewF w36 w35.heap.size (sout s b).length (bl (sout s b)) (.slice p36 (sout s b).length c36) := O_36
        simp only [aP, lI, l0, lS]
        refine readL (.slice p36 ((sout s b).length) c36) rfl (by kernel_rfl) ?_
        simp only [aP, lI, l0, lS]
        first | show Exit.then _ _ _ _ _ | show Exit.inBlock _ _ _ _ _
        go_upto_region 21 with fail
        refine wp_region_list ?_
        refine readL (.int .i64 0) rfl (by kernel_rfl) ?_
        simp only [aP, lI, l0, lS]
        first | show Exit.then _ _ _ _ _ | show Exit.inBlock _ _ _ _ _
        replace M := M.swap
        have HI := show Hid _ from (And.intro hex (And.intro (show Mm w ((A, pcs (sseal s b)) :: (B3, stc (sseal s b)) :: ex) w36 from M) (And.intro O_35 O_36)))
        clear M O_35 O_36 hex
        go_wp2
        go_loopw [11] (fun i w' => ∃ (y : Nat) (ex : List (Nat × List Value)), y ≤ b.length ∧ i = .int .i64 (y : Int) ∧ Rest12 (.slice op b.length oc) b.length w34.heap.size ex ∧ Mm w ((A, pcs (sseal s b)) :: (B3, stc (sseal s b)) :: ex) w' ∧ NewF w' w34.heap.size (sout s b).length (bl (sout s b)) (.slice p35 (sout s b).length c35) ∧ NewF w' w35.heap.size (sout s b).length (bl (sout s b)) (.slice p36 (sout s b).length c36)) (fun i _ => b.length - (intOf i).toNat)
        case atStart => exact ⟨0, ex, Nat.zero_le _, rfl, HI.out⟩
        case round =>
          clear HI
          obtain ⟨y, ex, hy, rfl, hex, M, O_35, O_36⟩ := hrel
          by_cases hyb : y < b.length
          · obtain ⟨g, cg, cs, hv, rfl, hcs, hgB⟩ := hex (by omega)
            injection hv with e1 _ e3
            subst e1 e3
            go_upto_region 22 with fail
            refine wp_region_list ?_
            refine readL (.int .i64 (y : Int)) rfl (by kernel_rfl) ?_
            simp only [aP, lI, l0, lS]
            refine readL (.slice (some ⟨g, 0, none⟩) b.length oc) rfl (by kernel_rfl) ?_
            simp only [aP, lI, l0, lS]
            refine readL (.int .i64 ((b.length : Nat) : Int)) rfl (lenS _ 28 5 (some ⟨g, 0, none⟩) b.length oc rfl Tryz.underlying28 rfl _) ?_
            simp only [aP, lI, l0, lS]
            refine readL (.bool true) rfl (lssI .i64 _ _ _ _ _ _ rfl rfl rfl true (decide_eq_true (by omega)) _) ?_
            simp only [aP, lI, l0, lS]
            first | show Exit.then _ _ _ _ _ | show Exit.inBlock _ _ _ _ _
            go_upto_region 24 with fail
            refine wp_region_list ?_
            refine readL (.slice (some ⟨g, 0, none⟩) b.length oc) rfl (by kernel_rfl) ?_
            simp only [aP, lI, l0, lS]
            refine readL (.int .i64 (y : Int)) rfl (by kernel_rfl) ?_
            simp only [aP, lI, l0, lS]
            refine readL (.pointer (some ⟨g, y, none⟩)) rfl (idxO g b.length oc y hyb _ _ _ rfl rfl rfl) ?_
            simp only [aP, lI, l0, lS]
            replace M := M.rot3
            have hyc : y < cs.length := by omega
            refine skipOpL rfl (storeAny (.int .u8 99) g y 5 _ _ rfl rfl rfl rfl rfl (M.isSome mS y hyc) (M.free mS y hyc) (by kernel_rfl)) ?_
            simp only [Act.put]
            replace M := M.set y hyc (.int .u8 99)
            replace O_35 := NewF.off O_35 ((Off.refl [g] _).set (b := g) mS y (.int .u8 99)) (fun b hb => by obtain rfl := List.mem_singleton.1 hb; omega)
            replace O_36 := NewF.off O_36 ((Off.refl [g] _).set (b := g) mS y (.int .u8 99)) (fun b hb => by obtain rfl := List.mem_singleton.1 hb; omega)
            generalize wr.setCell ⟨g, y, none⟩ (.int .u8 99) = w37 at M O_35 O_36 ⊢
            first | show Exit.then _ _ _ _ _ | show Exit.inBlock _ _ _ _ _
            replace M := M.perm (List.perm_append_comm (l₁ := [(g, cs.set y (.int .u8 99))]) (l₂ := [(A, pcs (sseal s b)), (B3, stc (sseal s b))]))
            have hcs2 : (cs.set y (.int .u8 99)).length = b.length := by rw [List.length_set]; exact hcs
            have HS := show Hid _ from (And.intro (show Rest12 (.slice (some ⟨g, 0, none⟩) b.length oc) b.length w34.heap.size [(g, cs.set y (.int .u8 99))] from fun _ => ⟨g, oc, _, rfl, rfl, hcs2, hgB⟩) (And.intro (show Mm w ((A, pcs (sseal s b)) :: (B3, stc (sseal s b)) :: [(g, cs.set y (.int .u8 99))]) w37 from M) (And.intro O_35 O_36)))
            clear M O_35 O_36 hcs2 hex
            go_wp2
            go_roundw
            case rel => first | exact ⟨y + 1, _, by omega, by go_num, HS.out⟩ | ((repeat apply Exists.intro); refine ⟨⟨y + 1, _, by omega, ?_, HS.out⟩, rfl⟩ <;> first | rfl | go_num)
            case measure => simp [intOf]; omega
          · obtain rfl : y = b.length := by omega
            clear hex
            go_upto_region 22 with fail
            refine wp_region_list ?_
            refine readL (.int .i64 ((b.length : Nat) : Int)) rfl (by kernel_rfl) ?_
            simp only [aP, lI, l0, lS]
            refine readL (.slice op b.length oc) rfl (by kernel_rfl) ?_
            simp only [aP, lI, l0, lS]
            refine readL (.int .i64 ((b.length : Nat) : Int)) rfl (lenS _ 28 5 op b.length oc rfl Tryz.underlying28 rfl _) ?_
            simp only [aP, lI, l0, lS]
            refine readL (.bool false) rfl (lssI .i64 _ _ _ _ _ _ rfl rfl rfl false (by simp) _) ?_
            simp only [aP, lI, l0, lS]
            first | show Exit.then _ _ _ _ _ | show Exit.inBlock _ _ _ _ _
            replace M := M.swap
            replace M := M.swap
            replace M : Mm w [(A, pcs (sseal s b)), (B3, stc (sseal s b))] wr := M.sub _ (List.Sublist.cons_cons _ (List.Sublist.cons_cons _ (List.nil_sublist _)))
            go_upto_region 25 with fail
            refine wp_region_list ?_
            refine readL (.slice p35 ((sout s b).length) c35) rfl (by kernel_rfl) ?_
            simp only [aP, lI, l0, lS]
            refine readL (.string (txt ((sout s b).length) (bl (sout s b)))) rfl (conv_txt 28 5 9 _ rfl Tryz.underlying28 Tryz.underlying5 Tryz.underlying9 p35 ((sout s b).length) c35 (bl (sout s b)) rfl _ (NewF.src O_35) (fun e => by have h1 := hnn_35 e; have h2 := hcc_35; omega)) ?_
            simp only [aP, lI, l0, lS]
            refine readL (.slice p36 ((sout s b).length) c36) rfl (by kernel_rfl) ?_
            simp only [aP, lI, l0, lS]
            refine readL (.string (txt ((sout s b).length) (bl (sout s b)))) rfl (conv_txt 28 5 9 _ rfl Tryz.underlying28 Tryz.underlying5 Tryz.underlying9 p36 ((sout s b).length) c36 (bl (sout s b)) rfl _ (NewF.src O_36) (fun e => by have h1 := hnn_36 e; have h2 := hcc_36; omega)) ?_
            simp only [aP, lI, l0, lS]
            refine readL (.bool false) rfl (neqT _ _ _ _ _ _ rfl rfl rfl rfl _) ?_
            simp only [aP, lI, l0, lS]
            first | show Exit.then _ _ _ _ _ | show Exit.inBlock _ _ _ _ _
            clear O_35 O_36
            replace M := M.swap
            replace M := M.swap
            go_upto_region 41 with fail
            refine wp_region_list ?_
            refine readL (.pointer (some ⟨A, 0, none⟩)) rfl (by kernel_rfl) ?_
            simp only [aP, lI, l0, lS]
            refine callL rfl (fun _ => by kernel_rfl) (hp.split w _ A _ (sseal s b) hg (sseal_w hsw _) M) ?_
            rintro e w38 ⟨rfl, l⟩
            replace M := M.call l
            clear l
            refine ⟨_, rfl, ?_⟩
            simp only [aP, lI, l0, lS]
            refine readL (.tuple #[.agg (row .u8 32 (kA (sseal s b).c 0 (bl []))).toArray, .agg (row .u8 32 (kB (sseal s b).c 0 (bl []))).toArray]) rfl (by kernel_rfl) ?_
            simp only [aP, lI, l0, lS]
            refine readL (.agg (row .u8 32 (kA (sseal s b).c 0 (bl []))).toArray) rfl (by kernel_rfl) ?_
            simp only [aP, lI, l0, lS]
            refine readL (.agg (row .u8 32 (kB (sseal s b).c 0 (bl []))).toArray) rfl (by kernel_rfl) ?_
            simp only [aP, lI, l0, lS]
            refine actL (w' := w38.alloc (.cells zu8_32 38)) (.pointer (some ⟨w38.heap.size, 0, none⟩)) rfl (by kernel_rfl) ?_
            simp only [aP, lI, l0, lS]
            have hB_B39 : w.heap.size ≤ w38.heap.size := M.below.size
            replace M := M.box zu8_32 38 w38.heap.size rfl
            generalize w38.alloc (.cells zu8_32 38) = w39 at M  ⊢
            generalize eB : w38.heap.size = B39 at M hB_B39  ⊢
            have hE_B39 : w38.heap.size ≤ B39 := Nat.le_of_eq eB
            have hF_B39 : B39 ≤ w38.heap.size := Nat.le_of_eq eB.symm
            clear eB
            replace M : Mm w ([(B39, [.int .u8 0, .int .u8 0, .int .u8 0, .int .u8 0, .int .u8 0, .int .u8 0, .int .u8 0, .int .u8 0, .int .u8 0, .int .u8 0, .int .u8 0, .int .u8 0, .int .u8 0, .int .u8 0, .int .u8 0, .int .u8 0, .int .u8 0, .int .u8 0, .int .u8 0, .int .u8 0, .int .u8 0, .int .u8 0, .int .u8 0, .int .u8 0, .int .u8 0, .int .u8 0, .int .u8 0, .int .u8 0, .int .u8 0, .int .u8 0, .int .u8 0, .int .u8 0]), (A, pcs (sseal s b)), (B3, stc (sseal s b))]) w39 := M
            refine actL (w' := w39.alloc (.cells zu8_32 38)) (.pointer (some ⟨w39.heap.size, 0, none⟩)) rfl (by kernel_rfl) ?_
            simp only [aP, lI, l0, lS]
            have hB_B40 : w.heap.size ≤ w39.heap.size := M.below.size
            replace M := M.box zu8_32 38 w39.heap.size rfl
            generalize w39.alloc (.cells zu8_32 38) = w40 at M  ⊢
            generalize eB : w39.heap.size = B40 at M hB_B40  ⊢
            have hE_B40 : w39.heap.size ≤ B40 := Nat.le_of_eq eB
            have hF_B40 : B40 ≤ w39.heap.size := Nat.le_of_eq eB.symm
            clear eB
            replace M : Mm w ([(B40, [.int .u8 0, .int .u8 0, .int .u8 0, .int .u8 0, .int .u8 0, .int .u8 0, .int .u8 0, .int .u8 0, .int .u8 0, .int .u8 0, .int .u8 0, .int .u8 0, .int .u8 0, .int .u8 0, .int .u8 0, .int .u8 0, .int .u8 0, .int .u8 0, .int .u8 0, .int .u8 0, .int .u8 0, .int .u8 0, .int .u8 0, .int .u8 0, .int .u8 0, .int .u8 0, .int .u8 0, .int .u8 0, .int .u8 0, .int .u8 0, .int .u8 0, .int .u8 0]), (B39, [.int .u8 0, .int .u8 0, .int .u8 0, .int .u8 0, .int .u8 0, .int .u8 0, .int .u8 0, .int .u8 0, .int .u8 0, .int .u8 0, .int .u8 0, .int .u8 0, .int .u8 0, .int .u8 0, .int .u8 0, .int .u8 0, .int .u8 0, .int .u8 0, .int .u8 0, .int .u8 0, .int .u8 0, .int .u8 0, .int .u8 0, .int .u8 0, .int .u8 0, .int .u8 0, .int .u8 0, .int .u8 0, .int .u8 0, .int .u8 0, .int .u8 0, .int .u8 0]), (A, pcs (sseal s b)), (B3, stc (sseal s b))]) w40 := M
            replace M := M.swap
            refine skipOpL rfl (storeP (row .u8 32 (kA (sseal s b).c 0 (bl []))) B39 0 38 _ _ rfl rfl rfl (M.thereP mS 0 32 (Nat.le_of_ble_eq_true rfl)) (by kernel_rfl) (row_one .u8 32 (kA (sseal s b).c 0 (bl [])))) ?_
            simp only [Act.put]
            replace M := M.setAll (row .u8 32 (kA (sseal s b).c 0 (bl []))) (by rw [row32]; rfl)
            generalize w40.setCells B39 0 (row .u8 32 (kA (sseal s b).c 0 (bl []))) = w41 at M ⊢
            replace M := M.swap
            refine skipOpL rfl (storeP (row .u8 32 (kB (sseal s b).c 0 (bl []))) B40 0 38 _ _ rfl rfl rfl (M.thereP mS 0 32 (Nat.le_of_ble_eq_true rfl)) (by kernel_rfl) (row_one .u8 32 (kB (sseal s b).c 0 (bl [])))) ?_
            simp only [Act.put]
            replace M := M.setAll (row .u8 32 (kB (sseal s b).c 0 (bl []))) (by rw [row32]; rfl)
            generalize w41.setCells B40 0 (row .u8 32 (kB (sseal s b).c 0 (bl []))) = w42 at M ⊢
            first | show Exit.then _ _ _ _ _ | show Exit.inBlock _ _ _ _ _
            go_upto_region 42 with fail
            refine wp_region_list ?_
            refine readL (.pointer (some ⟨B3, 0, none⟩)) rfl (by kernel_rfl) ?_
            simp only [aP, lI, l0, lS]
            replace M := M.rot4
            refine callL rfl (fun _ => by kernel_rfl) (rsplit_any w _ B3 _ (sseal s b) (sseal_w hsw _).c M) ?_
            rintro e w43 ⟨rfl, l⟩
            replace M := M.call l
            clear l
            refine ⟨_, rfl, ?_⟩
            simp only [aP, lI, l0, lS]
            refine readL (.tuple #[.agg (row .u8 32 (kA (sseal s b).c 0 (bl []))).toArray, .agg (row .u8 32 (kB (sseal s b).c 0 (bl []))).toArray]) rfl (by kernel_rfl) ?_
            simp only [aP, lI, l0, lS]
            refine readL (.agg (row .u8 32 (kA (sseal s b).c 0 (bl []))).toArray) rfl (by kernel_rfl) ?_
            simp only [aP, lI, l0, lS]
            refine readL (.agg (row .u8 32 (kB (sseal s b).c 0 (bl []))).toArray) rfl (by kernel_rfl) ?_
            simp only [aP, lI, l0, lS]
            refine actL (w' := w43.alloc (.cells zu8_32 38)) (.pointer (some ⟨w43.heap.size, 0, none⟩)) rfl (by kernel_rfl) ?_
            simp only [aP, lI, l0, lS]
            have hB_B44 : w.heap.size ≤ w43.heap.size := M.below.size
            replace M := M.box zu8_32 38 w43.heap.size rfl
            generalize w43.alloc (.cells zu8_32 38) = w44 at M  ⊢
            generalize eB : w43.heap.size = B44 at M hB_B44  ⊢
            have hE_B44 : w43.heap.size ≤ B44 := Nat.le_of_eq eB
            have hF_B44 : B44 ≤ w43.heap.size := Nat.le_of_eq eB.symm
            clear eB
            replace M : Mm w ([(B44, [.int .u8 0, .int .u8 0, .int .u8 0, .int .u8 0, .int .u8 0, .int .u8 0, .int .u8 0, .int .u8 0, .int .u8 0, .int .u8 0, .int .u8 0, .int .u8 0, .int .u8 0, .int .u8 0, .int .u8 0, .int .u8 0, .int .u8 0, .int .u8 0, .int .u8 0, .int .u8 0, .int .u8 0, .int .u8 0, .int .u8 0, .int .u8 0, .int .u8 0, .int .u8 0, .int .u8 0, .int .u8 0, .int .u8 0, .int .u8 0, .int .u8 0, .int .u8 0]), (B3, stc (sseal s b)), (B40, row .u8 32 (kB (sseal s b).c 0 (bl []))), (B39, row .u8 32 (kA (sseal s b).c 0 (bl []))), (A, pcs (sseal s b))]) w44 := M
            refine actL (w' := w44.alloc (.cells zu8_32 38)) (.pointer (some ⟨w44.heap.size, 0, none⟩)) rfl (by kernel_rfl) ?_
            simp only [aP, lI, l0, lS]
            have hB_B45 : w.heap.size ≤ w44.heap.size := M.below.size
            replace M := M.box zu8_32 38 w44.heap.size rfl
            generalize w44.alloc (.cells zu8_32 38) = w45 at M  ⊢
            generalize eB : w44.heap.size = B45 at M hB_B45  ⊢
            have hE_B45 : w44.heap.size ≤ B45 := Nat.le_of_eq eB
            have hF_B45 : B45 ≤ w44.heap.size := Nat.le_of_eq eB.symm
            clear eB
            replace M : Mm w ([(B45, [.int .u8 0, .int .u8 0, .int .u8 0, .int .u8 0, .int .u8 0, .int .u8 0, .int .u8 0, .int .u8 0, .int .u8 0, .int .u8 0, .int .u8 0, .int .u8 0, .int .u8 0, .int .u8 0, .int .u8 0, .int .u8 0, .int .u8 0, .int .u8 0, .int .u8 0, .int .u8 0, .int .u8 0, .int .u8 0, .int .u8 0, .int .u8 0, .int .u8 0, .int .u8 0, .int .u8 0, .int .u8 0, .int .u8 0, .int .u8 0, .int .u8 0, .int .u8 0]), (B44, [.int .u8 0, .int .u8 0, .int .u8 0, .int .u8 0, .int .u8 0, .int .u8 0, .int .u8 0, .int .u8 0, .int .u8 0, .int .u8 0, .int .u8 0, .int .u8 0, .int .u8 0, .int .u8 0, .int .u8 0, .int .u8 0, .int .u8 0, .int .u8 0, .int .u8 0, .int .u8 0, .int .u8 0, .int .u8 0, .int .u8 0, .int .u8 0, .int .u8 0, .int .u8 0, .int .u8 0, .int .u8 0, .int .u8 0, .int .u8 0, .int .u8 0, .int .u8 0]), (B3, stc (sseal s b)), (B40, row .u8 32 (kB (sseal s b).c 0 (bl []))), (B39, row .u8 32 (kA (sseal s b).c 0 (bl []))), (A, pcs (sseal s b))]) w45 := M
            replace M := M.swap
            refine skipOpL rfl (storeP (row .u8 32 (kA (sseal s b).c 0 (bl []))) B44 0 38 _ _ rfl rfl rfl (M.thereP mS 0 32 (Nat.le_of_ble_eq_true rfl)) (by kernel_rfl) (row_one .u8 32 (kA (sseal s b).c 0 (bl [])))) ?_
            simp only [Act.put]
            replace M := M.setAll (row .u8 32 (kA (sseal s b).c 0 (bl []))) (by rw [row32]; rfl)
            generalize w45.setCells B44 0 (row .u8 32 (kA (sseal s b).c 0 (bl []))) = w46 at M ⊢
            replace M := M.swap
            refine skipOpL rfl (storeP (row .u8 32 (kB (sseal s b).c 0 (bl []))) B45 0 38 _ _ rfl rfl rfl (M.thereP mS 0 32 (Nat.le_of_ble_eq_true rfl)) (by kernel_rfl) (row_one .u8 32 (kB (sseal s b).c 0 (bl [])))) ?_
            simp only [Act.put]
            replace M := M.setAll (row .u8 32 (kB (sseal s b).c 0 (bl []))) (by rw [row32]; rfl)
            generalize w46.setCells B45 0 (row .u8 32 (kB (sseal s b).c 0 (bl []))) = w47 at M ⊢
            first | show Exit.then _ _ _ _ _ | show Exit.inBlock _ _ _ _ _
            replace M : Mm w [(A, pcs (sseal s b)), (B45, row .u8 32 (kB (sseal s b).c 0 (bl []))), (B44, row .u8 32 (kA (sseal s b).c 0 (bl []))), (B3, stc (sseal s b)), (B40, row .u8 32 (kB (sseal s b).c 0 (bl []))), (B39, row .u8 32 (kA (sseal s b).c 0 (bl [])))] w47 := M.perm (List.perm_middle (l₁ := [(B45, row .u8 32 (kB (sseal s b).c 0 (bl []))), (B44, row .u8 32 (kA (sseal s b).c 0 (bl []))), (B3, stc (sseal s b)), (B40, row .u8 32 (kB (sseal s b).c 0 (bl []))), (B39, row .u8 32 (kA (sseal s b).c 0 (bl [])))]) (a := (A, pcs (sseal s b))) (l₂ := []))
            go_upto_region 43 with fail
            refine wp_region_held_drew (S := fun w' => Mm w [(A, pcs (sseal s b)), (B45, row .u8 32 (kB (sseal s b).c 0 (bl []))), (B44, row .u8 32 (kA (sseal s b).c 0 (bl []))), (B3, stc (sseal s b)), (B40, row .u8 32 (kB (sseal s b).c 0 (bl []))), (B39, row .u8 32 (kA (sseal s b).c 0 (bl [])))] w') (by kernel_rfl) M.drew ?_
            clear M
            intro M
            generalize w47.drew = w48 at M ⊢
            refine readHg (i := 0) (some 149) rfl (.pointer (some ⟨A, 0, none⟩)) rfl rfl (fun _ M => (by kernel_rfl)) M ?_
            simp only [aP, lI, l0, lS]
            refine readHg (i := 2) (some 151) rfl (.pointer (some ⟨B3, 0, none⟩)) rfl rfl (fun _ M => (by kernel_rfl)) M ?_
            simp only [aP, lI, l0, lS]
            refine readHg (i := 3) (some 152) rfl (.pointer (some ⟨B3, 0, none⟩)) rfl rfl (fun _ M => (by kernel_rfl)) M ?_
            simp only [aP, lI, l0, lS]
            refine readHg (i := 4) (some 153) rfl (.pointer (some ⟨B3, 0, none⟩)) rfl rfl (fun _ M => (by kernel_rfl)) M ?_
            simp only [aP, lI, l0, lS]
            refine readHg (i := 5) (some 154) rfl (.agg (row .u8 32 ((sseal s b).h)).toArray) rfl rfl (fun _ M => loadN 38 _ ⟨B3, 0, none⟩ (row .u8 32 (sseal s b).h) rfl rfl (fun _ => by kernel_rfl) (fun _ => by rw [row32]; kernel_rfl) (M.part (mT _ (mT _ (mT _ mS))) 0 _ (stc_h (sseal s b)))) M ?_
            simp only [aP, lI, l0, lS]
            refine callH (i := 1) (some 150) rfl (by kernel_rfl) rfl rfl (fun _ => by kernel_rfl) (hp.hash w _ A _ (sseal s b) hg M) ?_
            rintro e w49 ⟨rfl, l⟩
            replace M := M.call l
            clear l
            refine ⟨_, rfl, M, ?_⟩
            simp only [aP, lI, l0, lS]
            refine readHg (i := 6) (some 155) rfl (.bool false) rfl rfl (fun _ M => neqRow 32 .u8 ((sseal s b).h) ((sseal s b).h) 38 5 _ _ _ rfl rfl rfl Tryz.underlying38 Tryz.underlying5 (fun _ => by kernel_rfl) (by kernel_rfl) (fun _ _ => rfl) _) M ?_
            simp only [aP, lI, l0, lS]
            refine readHg (i := 7) (some 156) rfl (.bool false) rfl rfl (fun _ M => (by kernel_rfl)) M ?_
            simp only [aP, lI, l0, lS]
            refine readHg (i := 8) (some 157) rfl (.agg (row .u8 32 (kA (sseal s b).c 0 (bl []))).toArray) rfl rfl (fun _ M => loadN 38 _ ⟨B39, 0, none⟩ (row .u8 32 (kA (sseal s b).c 0 (bl []))) rfl rfl (fun _ => by kernel_rfl) (fun _ => by rw [row32]; kernel_rfl) (M.part (mT _ (mT _ (mT _ (mT _ (mT _ mS))))) 0 _ (by rw [List.drop_zero, List.take_length]))) M ?_
            simp only [aP, lI, l0, lS]
            refine readHg (i := 9) (some 158) rfl (.agg (row .u8 32 (kA (sseal s b).c 0 (bl []))).toArray) rfl rfl (fun _ M => loadN 38 _ ⟨B44, 0, none⟩ (row .u8 32 (kA (sseal s b).c 0 (bl []))) rfl rfl (fun _ => by kernel_rfl) (fun _ => by rw [row32]; kernel_rfl) (M.part (mT _ (mT _ mS)) 0 _ (by rw [List.drop_zero, List.take_length]))) M ?_
            simp only [aP, lI, l0, lS]
            refine readHg (i := 10) (some 159) rfl (.bool false) rfl rfl (fun _ M => neqRow 32 .u8 (kA (sseal s b).c 0 (bl [])) (kA (sseal s b).c 0 (bl [])) 38 5 _ _ _ rfl rfl rfl Tryz.underlying38 Tryz.underlying5 (fun _ => by kernel_rfl) (by kernel_rfl) (fun _ _ => rfl) _) M ?_
            simp only [aP, lI, l0, lS]
            refine readHg (i := 11) (some 160) rfl (.bool false) rfl rfl (fun _ M => (by kernel_rfl)) M ?_
            simp only [aP, lI, l0, lS]
            refine readHg (i := 12) (some 161) rfl (.bool false) rfl rfl (fun _ M => (by kernel_rfl)) M ?_
            simp only [aP, lI, l0, lS]
            refine readHg (i := 13) (some 162) rfl (.agg (row .u8 32 (kB (sseal s b).c 0 (bl []))).toArray) rfl rfl (fun _ M => loadN 38 _ ⟨B40, 0, none⟩ (row .u8 32 (kB (sseal s b).c 0 (bl []))) rfl rfl (fun _ => by kernel_rfl) (fun _ => by rw [row32]; kernel_rfl) (M.part (mT _ (mT _ (mT _ (mT _ mS)))) 0 _ (by rw [List.drop_zero, List.take_length]))) M ?_
            simp only [aP, lI, l0, lS]
            refine readHg (i := 14) (some 163) rfl (.agg (row .u8 32 (kB (sseal s b).c 0 (bl []))).toArray) rfl rfl (fun _ M => loadN 38 _ ⟨B45, 0, none⟩ (row .u8 32 (kB (sseal s b).c 0 (bl []))) rfl rfl (fun _ => by kernel_rfl) (fun _ => by rw [row32]; kernel_rfl) (M.part (mT _ mS) 0 _ (by rw [List.drop_zero, List.take_length]))) M ?_
            simp only [aP, lI, l0, lS]
            refine readHg (i := 15) (some 164) rfl (.bool false) rfl rfl (fun _ M => neqRow 32 .u8 (kB (sseal s b).c 0 (bl [])) (kB (sseal s b).c 0 (bl [])) 38 5 _ _ _ rfl rfl rfl Tryz.underlying38 Tryz.underlying5 (fun _ => by kernel_rfl) (by kernel_rfl) (fun _ _ => rfl) _) M ?_
            simp only [aP, lI, l0, lS]
            refine readHg (i := 16) (some 165) rfl (.bool false) rfl rfl (fun _ M => (by kernel_rfl)) M ?_
            simp only [aP, lI, l0, lS]
            refine wpAnyH_done (by kernel_rfl) ?_ _
            first | show Exit.then _ _ _ _ _ | show Exit.inBlock _ _ _ _ _
            replace M := M.rot4
            replace M := M.swap
            replace M : Mm w [(A, pcs (sseal s b)), (B3, stc (sseal s b))] w49 := M.sub _ (List.Sublist.cons_cons _ (List.Sublist.cons_cons _ (List.nil_sublist _)))
            have HS := show Hid _ from M
            clear M
            go_wp2
            go_roundw
            case rel => first | exact ⟨j + 1, A, sseal s b, by omega, by omega, by go_num, rfl, sseal_w hsw _, (Nat.le_trans (sseal_n s b) (by omega)), HS.out⟩ | ((repeat apply Exists.intro); refine ⟨⟨j + 1, A, sseal s b, by omega, by omega, ?_, rfl, sseal_w hsw _, (Nat.le_trans (sseal_n s b) (by omega)), HS.out⟩, rfl, rfl⟩ <;> first | rfl | go_num)
            case measure => simp [intOf]; omega
      · go_upto_region 11 with fail
        refine wp_region_list ?_
        refine readL (.bool false) rfl (eqlI .i64 _ _ _ _ _ _ rfl rfl rfl false (by rw [hkd]; rfl) _) ?_
        simp only [aP, lI, l0, lS]
        refine readL (.bool false) rfl (by kernel_rfl) ?_
        simp only [aP, lI, l0, lS]
        first | show Exit.then _ _ _ _ _ | show Exit.inBlock _ _ _ _ _
        go_upto_region 14 with fail
        refine wp_region_list ?_
        refine readL (.bool false) rfl (eqlI .i64 _ _ _ _ _ _ rfl rfl rfl false (by rw [hkd]; rfl) _) ?_
        simp only [aP, lI, l0, lS]
        refine readL (.bool false) rfl (by kernel_rfl) ?_
        simp only [aP, lI, l0, lS]
        first | show Exit.then _ _ _ _ _ | show Exit.inBlock _ _ _ _ _
        go_upto_region 17 with fail
        refine wp_region_list ?_
        refine readL (.bool false) rfl (eqlI .i64 _ _ _ _ _ _ rfl rfl rfl false (by rw [hkd]; rfl) _) ?_
        simp only [aP, lI, l0, lS]
        refine readL (.bool false) rfl (by kernel_rfl) ?_
        simp only [aP, lI, l0, lS]
        first | show Exit.then _ _ _ _ _ | show Exit.inBlock _ _ _ _ _
        go_upto_region 27 with fail
        refine wp_region_list ?_
        refine readL (.bool true) rfl (eqlI .i64 _ _ _ _ _ _ rfl rfl rfl true (by rw [hkd]; rfl) _) ?_
        simp only [aP, lI, l0, lS]
        refine readL (.bool true) rfl (by kernel_rfl) ?_
        simp only [aP, lI, l0, lS]
        first | show Exit.then _ _ _ _ _ | show Exit.inBlock _ _ _ _ _
        go_upto_region 29 with fail
        refine wp_region_list ?_
        refine readL (.slice (some ad) ops.length cap) rfl (by kernel_rfl) ?_
        simp only [aP, lI, l0, lS]
        refine readL (.int .i64 (j : Int)) rfl (by kernel_rfl) ?_
        simp only [aP, lI, l0, lS]
        refine readL (.pointer (some (ad.add (j * 2)))) rfl (opIdx 22 30 2 ops.length cap ad j _ _ Tryz.underlying22 (fun _ => by kernel_rfl) hlt.1 rfl rfl rfl _) ?_
        simp only [aP, lI, l0, lS]
        refine readL (.pointer (some (ad.add (j * 2)))) rfl (by kernel_rfl) ?_
        simp only [aP, lI, l0, lS]
        refine readL (.int .i64 k) rfl (load1 3 _ (ad.add (j * 2)) _ rfl rfl (fun _ => by kernel_rfl) ((M.below.cell (World.block_lt_of_cell? w _ hop.kind)).trans hop.kind)) ?_
        simp only [aP, lI, l0, lS]
        have hC : Calls Tryz.prog 7 #[.int .i64 k, .int .i64 6] w4 (fun e w' => e = .returned (.int .i64 ((kdn k 6 : Nat) : Int)) ∧ Below w4.heap.size w4 w') := kind12_any k 6 (by decide) hop.low _
        refine callL rfl (fun _ => by kernel_rfl) (hC) ?_
        rintro e w50 ⟨rfl, l⟩
        replace M := M.call l
        refine ⟨_, rfl, ?_⟩
        clear l hC
        simp only [aP, lI, l0, lS]
        refine readL (.bool false) rfl (eqlI .i64 _ _ _ _ _ _ rfl rfl rfl false (by rw [hkd]; rfl) _) ?_
        simp only [aP, lI, l0, lS]
        first | show Exit.then _ _ _ _ _ | show Exit.inBlock _ _ _ _ _
        go_upto_region 31 with fail
        refine wp_region_list ?_
        refine readL (.pointer (some ⟨A, 0, none⟩)) rfl (by kernel_rfl) ?_
        simp only [aP, lI, l0, lS]
        refine readL (.slice bp b.length bc) rfl (by kernel_rfl) ?_
        simp only [aP, lI, l0, lS]
        have hlt_O_51_A := M.lt mS
        have hlt_O_51_B3 := M.lt (mT _ mS)
        refine callL rfl (fun _ => by kernel_rfl) (hp.opn w _ A _ s hg hsw (by omega) bp bc b (Nat.le_trans hop.len (by decide)) hop.le hop.nil hop.byts M ((SrcA.of_old hop.src (X := [A]) (fun b hb => by obtain rfl := List.mem_singleton.1 hb; assumption)).off (Off.of_below M.below))) ?_
        rintro e w51 ⟨⟨v_51, rfl, O_51⟩, M', o1⟩
        clear M
        have M := M'
        clear M'
        clear o1
        refine ⟨_, rfl, ?_⟩
        obtain ⟨p51, c51, rfl, hcc_51, hnn_51, _, _⟩ := id O_51
        replace O_51 : NewF w51 w50.heap.size (soT s b).length (bl (soT s b)) (.slice p51 (soT s b).length c51) := O_51
        simp only [aP, lI, l0, lS]
        refine readL (.tuple #[.slice p51 ((soT s b).length) c51, .int .i64 (soE s b)]) rfl (by kernel_rfl) ?_
        simp only [aP, lI, l0, lS]
        refine readL (.slice p51 ((soT s b).length) c51) rfl (by kernel_rfl) ?_
        simp only [aP, lI, l0, lS]
        refine readL (.int .i64 (soE s b)) rfl (by kernel_rfl) ?_
        simp only [aP, lI, l0, lS]
        refine readL (.slice p51 ((soT s b).length) c51) rfl (by kernel_rfl) ?_
        simp only [aP, lI, l0, lS]
        refine readL (.int .i64 (soE s b)) rfl (by kernel_rfl) ?_
        simp only [aP, lI, l0, lS]
        first | show Exit.then _ _ _ _ _ | show Exit.inBlock _ _ _ _ _
        go_upto_region 32 with fail
        refine wp_region_list ?_
        refine readL (.pointer (some ⟨B3, 0, none⟩)) rfl (by kernel_rfl) ?_
        simp only [aP, lI, l0, lS]
        refine readL (.slice bp b.length bc) rfl (by kernel_rfl) ?_
        simp only [aP, lI, l0, lS]
        replace M := M.swap
        have hlt_O_52_B3 := M.lt mS
        have hlt_O_52_A := M.lt (mT _ mS)
        refine callL rfl (fun _ => by kernel_rfl) (ropen12_any w _ B3 _ s hsw (by omega) bp bc b (Nat.le_trans hbs (by decide)) hop.nil hop.byts hop.le M ((SrcA.of_old hop.src (X := [B3]) (fun b hb => by obtain rfl := List.mem_singleton.1 hb; assumption)).off (Off.of_below M.below))) ?_
        rintro e w52 ⟨⟨v_52, rfl, O_52⟩, M', o1⟩
        clear M
        have M := M'
        clear M'
        replace O_51 := NewF.off O_51 o1 (fun b hb => by obtain rfl := List.mem_singleton.1 hb; exact hlt_O_51_B3)
        clear o1
        refine ⟨_, rfl, ?_⟩
        replace O_52 := NewF.of_own O_52
        obtain ⟨p52, c52, rfl, hcc_52, hnn_52, _, _⟩ := id O_52
        replace O_52 : NewF w52 w51.heap.size (soT s b).length (bl (soT s b)) (.slice p52 (soT s b).length c52) := O_52
        simp only [aP, lI, l0, lS]
        refine readL (.tuple #[.slice p52 ((soT s b).length) c52, .int .i64 (soE s b)]) rfl (by kernel_rfl) ?_
        simp only [aP, lI, l0, lS]
        refine readL (.slice p52 ((soT s b).length) c52) rfl (by kernel_rfl) ?_
        simp only [aP, lI, l0, lS]
        refine readL (.int .i64 (soE s b)) rfl (by kernel_rfl) ?_
        simp only [aP, lI, l0, lS]
        refine readL (.slice p52 ((soT s b).length) c52) rfl (by kernel_rfl) ?_
        simp only [aP, lI, l0, lS]
        refine readL (.int .i64 (soE s b)) rfl (by kernel_rfl) ?_
        simp only [aP, lI, l0, lS]
        first | show Exit.then _ _ _ _ _ | show Exit.inBlock _ _ _ _ _
        go_upto_region 33 with fail
        refine wp_region_list ?_
        refine readL (.slice p51 ((soT s b).length) c51) rfl (by kernel_rfl) ?_
        simp only [aP, lI, l0, lS]
        refine readL (.string (txt ((soT s b).length) (bl (soT s b)))) rfl (conv_txt 28 5 9 _ rfl Tryz.underlying28 Tryz.underlying5 Tryz.underlying9 p51 ((soT s b).length) c51 (bl (soT s b)) rfl _ (NewF.src O_51) (fun e => by have h1 := hnn_51 e; have h2 := hcc_51; omega)) ?_
        simp only [aP, lI, l0, lS]
        refine readL (.slice p52 ((soT s b).length) c52) rfl (by kernel_rfl) ?_
        simp only [aP, lI, l0, lS]
        refine readL (.string (txt ((soT s b).length) (bl (soT s b)))) rfl (conv_txt 28 5 9 _ rfl Tryz.underlying28 Tryz.underlying5 Tryz.underlying9 p52 ((soT s b).length) c52 (bl (soT s b)) rfl _ (NewF.src O_52) (fun e => by have h1 := hnn_52 e; have h2 := hcc_52; omega)) ?_
        simp only [aP, lI, l0, lS]
        refine readL (.bool false) rfl (neqT _ _ _ _ _ _ rfl rfl rfl rfl _) ?_
        simp only [aP, lI, l0, lS]
        refine readL (.bool false) rfl (by kernel_rfl) ?_
        simp only [aP, lI, l0, lS]
        refine readL (.int .i64 (soE s b)) rfl (by kernel_rfl) ?_
        simp only [aP, lI, l0, lS]
        refine readL (.int .i64 (soE s b)) rfl (by kernel_rfl) ?_
        simp only [aP, lI, l0, lS]
        refine readL (.bool false) rfl (neqI .i64 _ _ _ _ _ _ rfl rfl rfl false (by simp) _) ?_
        simp only [aP, lI, l0, lS]
        refine readL (.bool false) rfl (by kernel_rfl) ?_
        simp only [aP, lI, l0, lS]
        first | show Exit.then _ _ _ _ _ | show Exit.inBlock _ _ _ _ _
        clear O_51 O_52
        replace M := M.swap
        go_upto_region 41 with fail
        refine wp_region_list ?_
        refine readL (.pointer (some ⟨A, 0, none⟩)) rfl (by kernel_rfl) ?_
        simp only [aP, lI, l0, lS]
        refine callL rfl (fun _ => by kernel_rfl) (hp.split w _ A _ (sopen s b) hg (sopen_w hsw _) M) ?_
        rintro e w53 ⟨rfl, l⟩
        replace M := M.call l
        clear l
        refine ⟨_, rfl, ?_⟩
        simp only [aP, lI, l0, lS]
        refine readL (.tuple #[.agg (row .u8 32 (kA (sopen s b).c 0 (bl []))).toArray, .agg (row .u8 32 (kB (sopen s b).c 0 (bl []))).toArray]) rfl (by kernel_rfl) ?_
        simp only [aP, lI, l0, lS]
        refine readL (.agg (row .u8 32 (kA (sopen s b).c 0 (bl []))).toArray) rfl (by kernel_rfl) ?_
        simp only [aP, lI, l0, lS]
        refine readL (.agg (row .u8 32 (kB (sopen s b).c 0 (bl []))).toArray) rfl (by kernel_rfl) ?_
        simp only [aP, lI, l0, lS]
        refine actL (w' := w53.alloc (.cells zu8_32 38)) (.pointer (some ⟨w53.heap.size, 0, none⟩)) rfl (by kernel_rfl) ?_
        simp only [aP, lI, l0, lS]
        have hB_B54 : w.heap.size ≤ w53.heap.size := M.below.size
        replace M := M.box zu8_32 38 w53.heap.size rfl
        generalize w53.alloc (.cells zu8_32 38) = w54 at M  ⊢
        generalize eB : w53.heap.size = B54 at M hB_B54  ⊢
        have hE_B54 : w53.heap.size ≤ B54 := Nat.le_of_eq eB
        have hF_B54 : B54 ≤ w53.heap.size := Nat.le_of_eq eB.symm
        clear eB
        replace M : Mm w ([(B54, [.int .u8 0, .int .u8 0, .int .u8 0, .int .u8 0, .int .u8 0, .int .u8 0, .int .u8 0, .int .u8 0, .int .u8 0, .int .u8 0, .int .u8 0, .int .u8 0, .int .u8 0, .int .u8 0, .int .u8 0, .int .u8 0, .int .u8 0, .int .u8 0, .int .u8 0, .int .u8 0, .int .u8 0, .int .u8 0, .int .u8 0, .int .u8 0, .int .u8 0, .int .u8 0, .int .u8 0, .int .u8 0, .int .u8 0, .int .u8 0, .int .u8 0, .int .u8 0]), (A, pcs (sopen s b)), (B3, stc (sopen s b))]) w54 := M
        refine actL (w' := w54.alloc (.cells zu8_32 38)) (.pointer (some ⟨w54.heap.size, 0, none⟩)) rfl (by kernel_rfl) ?_
        simp only [aP, lI, l0, lS]
        have hB_B55 : w.heap.size ≤ w54.heap.size := M.below.size
        replace M := M.box zu8_32 38 w54.heap.size rfl
        generalize w54.alloc (.cells zu8_32 38) = w55 at M  ⊢
        generalize eB : w54.heap.size = B55 at M hB_B55  ⊢
        have hE_B55 : w54.heap.size ≤ B55 := Nat.le_of_eq eB
        have hF_B55 : B55 ≤ w54.heap.size := Nat.le_of_eq eB.symm
        clear eB
        replace M : Mm w ([(B55, [.int .u8 0, .int .u8 0, .int .u8 0, .int .u8 0, .int .u8 0, .int .u8 0, .int .u8 0, .int .u8 0, .int .u8 0, .int .u8 0, .int .u8 0, .int .u8 0, .int .u8 0, .int .u8 0, .int .u8 0, .int .u8 0, .int .u8 0, .int .u8 0, .int .u8 0, .int .u8 0, .int .u8 0, .int .u8 0, .int .u8 0, .int .u8 0, .int .u8 0, .int .u8 0, .int .u8 0, .int .u8 0, .int .u8 0, .int .u8 0, .int .u8 0, .int .u8 0]), (B54, [.int .u8 0, .int .u8 0, .int .u8 0, .int .u8 0, .int .u8 0, .int .u8 0, .int .u8 0, .int .u8 0, .int .u8 0, .int .u8 0, .int .u8 0, .int .u8 0, .int .u8 0, .int .u8 0, .int .u8 0, .int .u8 0, .int .u8 0, .int .u8 0, .int .u8 0, .int .u8 0, .int .u8 0, .int .u8 0, .int .u8 0, .int .u8 0, .int .u8 0, .int .u8 0, .int .u8 0, .int .u8 0, .int .u8 0, .int .u8 0, .int .u8 0, .int .u8 0]), (A, pcs (sopen s b)), (B3, stc (sopen s b))]) w55 := M
        replace M := M.swap
        refine skipOpL rfl (storeP (row .u8 32 (kA (sopen s b).c 0 (bl []))) B54 0 38 _ _ rfl rfl rfl (M.thereP mS 0 32 (Nat.le_of_ble_eq_true rfl)) (by kernel_rfl) (row_one .u8 32 (kA (sopen s b).c 0 (bl [])))) ?_
        simp only [Act.put]
        replace M := M.setAll (row .u8 32 (kA (sopen s b).c 0 (bl []))) (by rw [row32]; rfl)
        generalize w55.setCells B54 0 (row .u8 32 (kA (sopen s b).c 0 (bl []))) = w56 at M ⊢
        replace M := M.swap
        refine skipOpL rfl (storeP (row .u8 32 (kB (sopen s b).c 0 (bl []))) B55 0 38 _ _ rfl rfl rfl (M.thereP mS 0 32 (Nat.le_of_ble_eq_true rfl)) (by kernel_rfl) (row_one .u8 32 (kB (sopen s b).c 0 (bl [])))) ?_
        simp only [Act.put]
        replace M := M.setAll (row .u8 32 (kB (sopen s b).c 0 (bl []))) (by rw [row32]; rfl)
        generalize w56.setCells B55 0 (row .u8 32 (kB (sopen s b).c 0 (bl []))) = w57 at M ⊢
        first | show Exit.then _ _ _ _ _ | show Exit.inBlock _ _ _ _ _
        go_upto_region 42 with fail
        refine wp_region_list ?_
        refine readL (.pointer (some ⟨B3, 0, none⟩)) rfl (by kernel_rfl) ?_
        simp only [aP, lI, l0, lS]
        replace M := M.rot4
        refine callL rfl (fun _ => by kernel_rfl) (rsplit_any w _ B3 _ (sopen s b) (sopen_w hsw _).c M) ?_
        rintro e w58 ⟨rfl, l⟩
        replace M := M.call l
        clear l
        refine ⟨_, rfl, ?_⟩
        simp only [aP, lI, l0, lS]
        refine readL (.tuple #[.agg (row .u8 32 (kA (sopen s b).c 0 (bl []))).toArray, .agg (row .u8 32 (kB (sopen s b).c 0 (bl []))).toArray]) rfl (by kernel_rfl) ?_
        simp only [aP, lI, l0, lS]
        refine readL (.agg (row .u8 32 (kA (sopen s b).c 0 (bl []))).toArray) rfl (by kernel_rfl) ?_
        simp only [aP, lI, l0, lS]
        refine readL (.agg (row .u8 32 (kB (sopen s b).c 0 (bl []))).toArray) rfl (by kernel_rfl) ?_
        simp only [aP, lI, l0, lS]
        refine actL (w' := w58.alloc (.cells zu8_32 38)) (.pointer (some ⟨w58.heap.size, 0, none⟩)) rfl (by kernel_rfl) ?_
        simp only [aP, lI, l0, lS]
        have hB_B59 : w.heap.size ≤ w58.heap.size := M.below.size
        replace M := M.box zu8_32 38 w58.heap.size rfl
        generalize w58.alloc (.cells zu8_32 38) = w59 at M  ⊢
        generalize eB : w58.heap.size = B59 at M hB_B59  ⊢
        have hE_B59 : w58.heap.size ≤ B59 := Nat.le_of_eq eB
        have hF_B59 : B59 ≤ w58.heap.size := Nat.le_of_eq eB.symm
        clear eB
        replace M : Mm w ([(B59, [.int .u8 0, .int .u8 0, .int .u8 0, .int .u8 0, .int .u8 0, .int .u8 0, .int .u8 0, .int .u8 0, .int .u8 0, .int .u8 0, .int .u8 0, .int .u8 0, .int .u8 0, .int .u8 0, .int .u8 0, .int .u8 0, .int .u8 0, .int .u8 0, .int .u8 0, .int .u8 0, .int .u8 0, .int .u8 0, .int .u8 0, .int .u8 0, .int .u8 0, .int .u8 0, .int .u8 0, .int .u8 0, .int .u8 0, .int .u8 0, .int .u8 0, .int .u8 0]), (B3, stc (sopen s b)), (B55, row .u8 32 (kB (sopen s b).c 0 (bl []))), (B54, row .u8 32 (kA (sopen s b).c 0 (bl []))), (A, pcs (sopen s b))]) w59 := M
        refine actL (w' := w59.alloc (.cells zu8_32 38)) (.pointer (some ⟨w59.heap.size, 0, none⟩)) rfl (by kernel_rfl) ?_
        simp only [aP, lI, l0, lS]
        have hB_B60 : w.heap.size ≤ w59.heap.size := M.below.size
        replace M := M.box zu8_32 38 w59.heap.size rfl
        generalize w59.alloc (.cells zu8_32 38) = w60 at M  ⊢
        generalize eB : w59.heap.size = B60 at M hB_B60  ⊢
        have hE_B60 : w59.heap.size ≤ B60 := Nat.le_of_eq eB
        have hF_B60 : B60 ≤ w59.heap.size := Nat.le_of_eq eB.symm
        clear eB
        replace M : Mm w ([(B60, [.int .u8 0, .int .u8 0, .int .u8 0, .int .u8 0, .int .u8 0, .int .u8 0, .int .u8 0, .int .u8 0, .int .u8 0, .int .u8 0, .int .u8 0, .int .u8 0, .int .u8 0, .int .u8 0, .int .u8 0, .int .u8 0, .int .u8 0, .int .u8 0, .int .u8 0, .int .u8 0, .int .u8 0, .int .u8 0, .int .u8 0, .int .u8 0, .int .u8 0, .int .u8 0, .int .u8 0, .int .u8 0, .int .u8 0, .int .u8 0, .int .u8 0, .int .u8 0]), (B59, [.int .u8 0, .int .u8 0, .int .u8 0, .int .u8 0, .int .u8 0, .int .u8 0, .int .u8 0, .int .u8 0, .int .u8 0, .int .u8 0, .int .u8 0, .int .u8 0, .int .u8 0, .int .u8 0, .int .u8 0, .int .u8 0, .int .u8 0, .int .u8 0, .int .u8 0, .int .u8 0, .int .u8 0, .int .u8 0, .int .u8 0, .int .u8 0, .int .u8 0, .int .u8 0, .int .u8 0, .int .u8 0, .int .u8 0, .int .u8 0, .int .u8 0, .int .u8 0]), (B3, stc (sopen s b)), (B55, row .u8 32 (kB (sopen s b).c 0 (bl []))), (B54, row .u8 32 (kA (sopen s b).c 0 (bl []))), (A, pcs (sopen s b))]) w60 := M
        replace M := M.swap
        refine skipOpL rfl (storeP (row .u8 32 (kA (sopen s b).c 0 (bl []))) B59 0 38 _ _ rfl rfl rfl (M.thereP mS 0 32 (Nat.le_of_ble_eq_true rfl)) (by kernel_rfl) (row_one .u8 32 (kA (sopen s b).c 0 (bl [])))) ?_
        simp only [Act.put]
        replace M := M.setAll (row .u8 32 (kA (sopen s b).c 0 (bl []))) (by rw [row32]; rfl)
        generalize w60.setCells B59 0 (row .u8 32 (kA (sopen s b).c 0 (bl []))) = w61 at M ⊢
        replace M := M.swap
        refine skipOpL rfl (storeP (row .u8 32 (kB (sopen s b).c 0 (bl []))) B60 0 38 _ _ rfl rfl rfl (M.thereP mS 0 32 (Nat.le_of_ble_eq_true rfl)) (by kernel_rfl) (row_one .u8 32 (kB (sopen s b).c 0 (bl [])))) ?_
        simp only [Act.put]
        replace M := M.setAll (row .u8 32 (kB (sopen s b).c 0 (bl []))) (by rw [row32]; rfl)
        generalize w61.setCells B60 0 (row .u8 32 (kB (sopen s b).c 0 (bl []))) = w62 at M ⊢
        first | show Exit.then _ _ _ _ _ | show Exit.inBlock _ _ _ _ _
        replace M : Mm w [(A, pcs (sopen s b)), (B60, row .u8 32 (kB (sopen s b).c 0 (bl []))), (B59, row .u8 32 (kA (sopen s b).c 0 (bl []))), (B3, stc (sopen s b)), (B55, row .u8 32 (kB (sopen s b).c 0 (bl []))), (B54, row .u8 32 (kA (sopen s b).c 0 (bl [])))] w62 := M.perm (List.perm_middle (l₁ := [(B60, row .u8 32 (kB (sopen s b).c 0 (bl []))), (B59, row .u8 32 (kA (sopen s b).c 0 (bl []))), (B3, stc (sopen s b)), (B55, row .u8 32 (kB (sopen s b).c 0 (bl []))), (B54, row .u8 32 (kA (sopen s b).c 0 (bl [])))]) (a := (A, pcs (sopen s b))) (l₂ := []))
        go_upto_region 43 with fail
        refine wp_region_held_drew (S := fun w' => Mm w [(A, pcs (sopen s b)), (B60, row .u8 32 (kB (sopen s b).c 0 (bl []))), (B59, row .u8 32 (kA (sopen s b).c 0 (bl []))), (B3, stc (sopen s b)), (B55, row .u8 32 (kB (sopen s b).c 0 (bl []))), (B54, row .u8 32 (kA (sopen s b).c 0 (bl [])))] w') (by kernel_rfl) M.drew ?_
        clear M
        intro M
        generalize w62.drew = w63 at M ⊢
        refine readHg (i := 0) (some 149) rfl (.pointer (some ⟨A, 0, none⟩)) rfl rfl (fun _ M => (by kernel_rfl)) M ?_
        simp only [aP, lI, l0, lS]
        refine readHg (i := 2) (some 151) rfl (.pointer (some ⟨B3, 0, none⟩)) rfl rfl (fun _ M => (by kernel_rfl)) M ?_
        simp only [aP, lI, l0, lS]
        refine readHg (i := 3) (some 152) rfl (.pointer (some ⟨B3, 0, none⟩)) rfl rfl (fun _ M => (by kernel_rfl)) M ?_
        simp only [aP, lI, l0, lS]
        refine readHg (i := 4) (some 153) rfl (.pointer (some ⟨B3, 0, none⟩)) rfl rfl (fun _ M => (by kernel_rfl)) M ?_
        simp only [aP, lI, l0, lS]
        refine readHg (i := 5) (some 154) rfl (.agg (row .u8 32 ((sopen s b).h)).toArray) rfl rfl (fun _ M => loadN 38 _ ⟨B3, 0, none⟩ (row .u8 32 (sopen s b).h) rfl rfl (fun _ => by kernel_rfl) (fun _ => by rw [row32]; kernel_rfl) (M.part (mT _ (mT _ (mT _ mS))) 0 _ (stc_h (sopen s b)))) M ?_
        simp only [aP, lI, l0, lS]
        refine callH (i := 1) (some 150) rfl (by kernel_rfl) rfl rfl (fun _ => by kernel_rfl) (hp.hash w _ A _ (sopen s b) hg M) ?_
        rintro e w64 ⟨rfl, l⟩
        replace M := M.call l
        clear l
        refine ⟨_, rfl, M, ?_⟩
        simp only [aP, lI, l0, lS]
        refine readHg (i := 6) (some 155) rfl (.bool false) rfl rfl (fun _ M => neqRow 32 .u8 ((sopen s b).h) ((sopen s b).h) 38 5 _ _ _ rfl rfl rfl Tryz.underlying38 Tryz.underlying5 (fun _ => by kernel_rfl) (by kernel_rfl) (fun _ _ => rfl) _) M ?_
        simp only [aP, lI, l0, lS]
        refine readHg (i := 7) (some 156) rfl (.bool false) rfl rfl (fun _ M => (by kernel_rfl)) M ?_
        simp only [aP, lI, l0, lS]
        refine readHg (i := 8) (some 157) rfl (.agg (row .u8 32 (kA (sopen s b).c 0 (bl []))).toArray) rfl rfl (fun _ M => loadN 38 _ ⟨B54, 0, none⟩ (row .u8 32 (kA (sopen s b).c 0 (bl []))) rfl rfl (fun _ => by kernel_rfl) (fun _ => by rw [row32]; kernel_rfl) (M.part (mT _ (mT _ (mT _ (mT _ (mT _ mS))))) 0 _ (by rw [List.drop_zero, List.take_length]))) M ?_
        simp only [aP, lI, l0, lS]
        refine readHg (i := 9) (some 158) rfl (.agg (row .u8 32 (kA (sopen s b).c 0 (bl []))).toArray) rfl rfl (fun _ M => loadN 38 _ ⟨B59, 0, none⟩ (row .u8 32 (kA (sopen s b).c 0 (bl []))) rfl rfl (fun _ => by kernel_rfl) (fun _ => by rw [row32]; kernel_rfl) (M.part (mT _ (mT _ mS)) 0 _ (by rw [List.drop_zero, List.take_length]))) M ?_
        simp only [aP, lI, l0, lS]
        refine readHg (i := 10) (some 159) rfl (.bool false) rfl rfl (fun _ M => neqRow 32 .u8 (kA (sopen s b).c 0 (bl [])) (kA (sopen s b).c 0 (bl [])) 38 5 _ _ _ rfl rfl rfl Tryz.underlying38 Tryz.underlying5 (fun _ => by kernel_rfl) (by kernel_rfl) (fun _ _ => rfl) _) M ?_
        simp only [aP, lI, l0, lS]
        refine readHg (i := 11) (some 160) rfl (.bool false) rfl rfl (fun _ M => (by kernel_rfl)) M ?_
        simp only [aP, lI, l0, lS]
        refine readHg (i := 12) (some 161) rfl (.bool false) rfl rfl (fun _ M => (by kernel_rfl)) M ?_
        simp only [aP, lI, l0, lS]
        refine readHg (i := 13) (some 162) rfl (.agg (row .u8 32 (kB (sopen s b).c 0 (bl []))).toArray) rfl rfl (fun _ M => loadN 38 _ ⟨B55, 0, none⟩ (row .u8 32 (kB (sopen s b).c 0 (bl []))) rfl rfl (fun _ => by kernel_rfl) (fun _ => by rw [row32]; kernel_rfl) (M.part (mT _ (mT _ (mT _ (mT _ mS)))) 0 _ (by rw [List.drop_zero, List.take_length]))) M ?_
        simp only [aP, lI, l0, lS]
        refine readHg (i := 14) (some 163) rfl (.agg (row .u8 32 (kB (sopen s b).c 0 (bl []))).toArray) rfl rfl (fun _ M => loadN 38 _ ⟨B60, 0, none⟩ (row .u8 32 (kB (sopen s b).c 0 (bl []))) rfl rfl (fun _ => by kernel_rfl) (fun _ => by rw [row32]; kernel_rfl) (M.part (mT _ mS) 0 _ (by rw [List.drop_zero, List.take_length]))) M ?_
        simp only [aP, lI, l0, lS]
        refine readHg (i := 15) (some 164) rfl (.bool false) rfl rfl (fun _ M => neqRow 32 .u8 (kB (sopen s b).c 0 (bl [])) (kB (sopen s b).c 0 (bl [])) 38 5 _ _ _ rfl rfl rfl Tryz.underlying38 Tryz.underlying5 (fun _ => by kernel_rfl) (by kernel_rfl) (fun _ _ => rfl) _) M ?_
        simp only [aP, lI, l0, lS]
        refine readHg (i := 16) (some 165) rfl (.bool false) rfl rfl (fun _ M => (by kernel_rfl)) M ?_
        simp only [aP, lI, l0, lS]
        refine wpAnyH_done (by kernel_rfl) ?_ _
        first | show Exit.then _ _ _ _ _ | show Exit.inBlock _ _ _ _ _
        replace M := M.rot4
        replace M := M.swap
        replace M : Mm w [(A, pcs (sopen s b)), (B3, stc (sopen s b))] w64 := M.sub _ (List.Sublist.cons_cons _ (List.Sublist.cons_cons _ (List.nil_sublist _)))
        have HS := show Hid _ from M
        clear M
        go_wp2
        go_roundw
        case rel => first | exact ⟨j + 1, A, sopen s b, by omega, by omega, by go_num, rfl, sopen_w hsw _, (Nat.le_trans (sopen_n s b) (by omega)), HS.out⟩ | ((repeat apply Exists.intro); refine ⟨⟨j + 1, A, sopen s b, by omega, by omega, ?_, rfl, sopen_w hsw _, (Nat.le_trans (sopen_n s b) (by omega)), HS.out⟩, rfl, rfl⟩ <;> first | rfl | go_num)
        case measure => simp [intOf]; omega
      · go_upto_region 11 with fail
        refine wp_region_list ?_
        refine readL (.bool false) rfl (eqlI .i64 _ _ _ _ _ _ rfl rfl rfl false (by rw [hkd]; rfl) _) ?_
        simp only [aP, lI, l0, lS]
        refine readL (.bool false) rfl (by kernel_rfl) ?_
        simp only [aP, lI, l0, lS]
        first | show Exit.then _ _ _ _ _ | show Exit.inBlock _ _ _ _ _
        go_upto_region 14 with fail
        refine wp_region_list ?_
        refine readL (.bool false) rfl (eqlI .i64 _ _ _ _ _ _ rfl rfl rfl false (by rw [hkd]; rfl) _) ?_
        simp only [aP, lI, l0, lS]
        refine readL (.bool false) rfl (by kernel_rfl) ?_
        simp only [aP, lI, l0, lS]
        first | show Exit.then _ _ _ _ _ | show Exit.inBlock _ _ _ _ _
        go_upto_region 17 with fail
        refine wp_region_list ?_
        refine readL (.bool false) rfl (eqlI .i64 _ _ _ _ _ _ rfl rfl rfl false (by rw [hkd]; rfl) _) ?_
        simp only [aP, lI, l0, lS]
        refine readL (.bool false) rfl (by kernel_rfl) ?_
        simp only [aP, lI, l0, lS]
        first | show Exit.then _ _ _ _ _ | show Exit.inBlock _ _ _ _ _
        go_upto_region 27 with fail
        refine wp_region_list ?_
        refine readL (.bool false) rfl (eqlI .i64 _ _ _ _ _ _ rfl rfl rfl false (by rw [hkd]; rfl) _) ?_
        simp only [aP, lI, l0, lS]
        refine readL (.bool false) rfl (by kernel_rfl) ?_
        simp only [aP, lI, l0, lS]
        first | show Exit.then _ _ _ _ _ | show Exit.inBlock _ _ _ _ _
        go_upto_region 28 with fail
        refine wp_region_list ?_
        refine readL (.bool true) rfl (eqlI .i64 _ _ _ _ _ _ rfl rfl rfl true (by rw [hkd]; rfl) _) ?_
        simp only [aP, lI, l0, lS]
        refine readL (.bool true) rfl (by kernel_rfl) ?_
        simp only [aP, lI, l0, lS]
        first | show Exit.then _ _ _ _ _ | show Exit.inBlock _ _ _ _ _
        go_upto_region 29 with fail
        refine wp_region_list ?_
        refine readL (.slice (some ad) ops.length cap) rfl (by kernel_rfl) ?_
        simp only [aP, lI, l0, lS]
        refine readL (.int .i64 (j : Int)) rfl (by kernel_rfl) ?_
        simp only [aP, lI, l0, lS]
        refine readL (.pointer (some (ad.add (j * 2)))) rfl (opIdx 22 30 2 ops.length cap ad j _ _ Tryz.underlying22 (fun _ => by kernel_rfl) hlt.1 rfl rfl rfl _) ?_
        simp only [aP, lI, l0, lS]
        refine readL (.pointer (some (ad.add (j * 2)))) rfl (by kernel_rfl) ?_
        simp only [aP, lI, l0, lS]
        refine readL (.int .i64 k) rfl (load1 3 _ (ad.add (j * 2)) _ rfl rfl (fun _ => by kernel_rfl) ((M.below.cell (World.block_lt_of_cell? w _ hop.kind)).trans hop.kind)) ?_
        simp only [aP, lI, l0, lS]
        have hC : Calls Tryz.prog 7 #[.int .i64 k, .int .i64 6] w4 (fun e w' => e = .returned (.int .i64 ((kdn k 6 : Nat) : Int)) ∧ Below w4.heap.size w4 w') := kind12_any k 6 (by decide) hop.low _
        refine callL rfl (fun _ => by kernel_rfl) (hC) ?_
        rintro e w65 ⟨rfl, l⟩
        replace M := M.call l
        refine ⟨_, rfl, ?_⟩
        clear l hC
        simp only [aP, lI, l0, lS]
        refine readL (.bool true) rfl (eqlI .i64 _ _ _ _ _ _ rfl rfl rfl true (by rw [hkd]; rfl) _) ?_
        simp only [aP, lI, l0, lS]
        first | show Exit.then _ _ _ _ _ | show Exit.inBlock _ _ _ _ _
        go_upto_region 30 with fail
        refine wp_region_list ?_
        refine readL (.pointer (some ⟨B3, 0, none⟩)) rfl (by kernel_rfl) ?_
        simp only [aP, lI, l0, lS]
        replace M := M.swap
        refine callL rfl (fun _ => by kernel_rfl) (rclone_any w _ B3 _ s M) ?_
        rintro e w66 ⟨B66, rfl, hnew_B66, M', l⟩
        clear M
        have M := M'
        clear M'
        clear l
        refine ⟨_, rfl, ?_⟩
        simp only [aP, lI, l0, lS]
        have hlo_B66 : w.heap.size ≤ B66 := (M.rows _ mS).2.1
        refine readL (.slice bp b.length bc) rfl (by kernel_rfl) ?_
        simp only [aP, lI, l0, lS]
        have hlt_O_67_B66 := M.lt mS
        have hlt_O_67_B3 := M.lt (mT _ mS)
        have hlt_O_67_A := M.lt (mT _ (mT _ mS))
        refine callL rfl (fun _ => by kernel_rfl) (rseal12_any w _ B66 _ s hsw (by omega) bp bc b (Nat.le_trans hbs (by decide)) hop.nil hop.byts M ((SrcA.of_old hop.src (X := [B66]) (fun b hb => by obtain rfl := List.mem_singleton.1 hb; assumption)).off (Off.of_below M.below))) ?_
        rintro e w67 ⟨⟨v_67, rfl, O_67⟩, M', o1⟩
        clear M
        have M := M'
        clear M'
        clear o1
        refine ⟨_, rfl, ?_⟩
        replace O_67 := NewF.of_own O_67
        obtain ⟨p67, c67, rfl, hcc_67, hnn_67, _, _⟩ := id O_67
        replace O_67 : NewF w67 w66.heap.size (sout s b).length (bl (sout s b)) (.slice p67 (sout s b).length c67) := O_67
        simp only [aP, lI, l0, lS]
        refine readL (.slice p67 ((sout s b).length) c67) rfl (by kernel_rfl) ?_
        simp only [aP, lI, l0, lS]
        first | show Exit.then _ _ _ _ _ | show Exit.inBlock _ _ _ _ _
        replace M := M.swap
        replace M := M.rot3
        replace M : Mm w [(A, pcs s), (B3, stc s)] w67 := M.sub _ (List.Sublist.cons_cons _ (List.Sublist.cons_cons _ (List.nil_sublist _)))
        go_upto_region 31 with fail
        refine wp_region_list ?_
        refine readL (.pointer (some ⟨A, 0, none⟩)) rfl (by kernel_rfl) ?_
        simp only [aP, lI, l0, lS]
        refine readL (.slice p67 ((sout s b).length) c67) rfl (by kernel_rfl) ?_
        simp only [aP, lI, l0, lS]
        have hlt_O_68_A := M.lt mS
        have hlt_O_68_B3 := M.lt (mT _ mS)
        refine callL rfl (fun _ => by kernel_rfl) (hp.opn w _ A _ s hg hsw (by omega) p67 c67 (sout s b) (by rw [sout_length]; split <;> omega) hcc_67 hnn_67 (sout_byts hop.byts) M (NewF.srcA O_67 (fun b hb => by obtain rfl := List.mem_singleton.1 hb; exact hlt_O_67_A))) ?_
        rintro e w68 ⟨⟨v_68, rfl, O_68⟩, M', o1⟩
        clear M
        have M := M'
        clear M'
        replace O_67 := NewF.off O_67 o1 (fun b hb => by obtain rfl := List.mem_singleton.1 hb; exact hlt_O_67_A)
        clear o1
        refine ⟨_, rfl, ?_⟩
        obtain ⟨p68, c68, rfl, hcc_68, hnn_68, _, _⟩ := id O_68
        replace O_68 : NewF w68 w67.heap.size (soT s (sout s b)).length (bl (soT s (sout s b))) (.slice p68 (soT s (sout s b)).length c68) := O_68
        simp only [aP, lI, l0, lS]
        refine readL (.tuple #[.slice p68 ((soT s (sout s b)).length) c68, .int .i64 (soE s (sout s b))]) rfl (by kernel_rfl) ?_
        simp only [aP, lI, l0, lS]
        refine readL (.slice p68 ((soT s (sout s b)).length) c68) rfl (by kernel_rfl) ?_
        simp only [aP, lI, l0, lS]
        refine readL (.int .i64 (soE s (sout s b))) rfl (by kernel_rfl) ?_
        simp only [aP, lI, l0, lS]
        refine readL (.slice p68 ((soT s (sout s b)).length) c68) rfl (by kernel_rfl) ?_
        simp only [aP, lI, l0, lS]
        refine readL (.int .i64 (soE s (sout s b))) rfl (by kernel_rfl) ?_
        simp only [aP, lI, l0, lS]
        first | show Exit.then _ _ _ _ _ | show Exit.inBlock _ _ _ _ _
        go_upto_region 32 with fail
        refine wp_region_list ?_
        refine readL (.pointer (some ⟨B3, 0, none⟩)) rfl (by kernel_rfl) ?_
        simp only [aP, lI, l0, lS]
        refine readL (.slice p67 ((sout s b).length) c67) rfl (by kernel_rfl) ?_
        simp only [aP, lI, l0, lS]
        replace M := M.swap
        have hlt_O_69_B3 := M.lt mS
        have hlt_O_69_A := M.lt (mT _ mS)
        refine callL rfl (fun _ => by kernel_rfl) (ropen12_any w _ B3 _ s hsw (by omega) p67 c67 (sout s b) (by rw [sout_length]; split <;> omega) hnn_67 (sout_byts hop.byts) hcc_67 M (NewF.srcA O_67 (fun b hb => by obtain rfl := List.mem_singleton.1 hb; exact hlt_O_67_B3))) ?_
        rintro e w69 ⟨⟨v_69, rfl, O_69⟩, M', o1⟩
        clear M
        have M := M'
        clear M'
        replace O_67 := NewF.off O_67 o1 (fun b hb => by obtain rfl := List.mem_singleton.1 hb; exact hlt_O_67_B3)
        replace O_68 := NewF.off O_68 o1 (fun b hb => by obtain rfl := List.mem_singleton.1 hb; exact hlt_O_68_B3)
        clear o1
        refine ⟨_, rfl, ?_⟩
        replace O_69 := NewF.of_own O_69
        obtain ⟨p69, c69, rfl, hcc_69, hnn_69, _, _⟩ := id O_69
        replace O_69 : NewF w69 w68.heap.size (soT s (sout s b)).length (bl (soT s (sout s b))) (.slice p69 (soT s (sout s b)).length c69) := O_69
        simp only [aP, lI, l0, lS]
        refine readL (.tuple #[.slice p69 ((soT s (sout s b)).length) c69, .int .i64 (soE s (sout s b))]) rfl (by kernel_rfl) ?_
        simp only [aP, lI, l0, lS]
        refine readL (.slice p69 ((soT s (sout s b)).length) c69) rfl (by kernel_rfl) ?_
        simp only [aP, lI, l0, lS]
        refine readL (.int .i64 (soE s (sout s b))) rfl (by kernel_rfl) ?_
        simp only [aP, lI, l0, lS]
        refine readL (.slice p69 ((soT s (sout s b)).length) c69) rfl (by kernel_rfl) ?_
        simp only [aP, lI, l0, lS]
        refine readL (.int .i64 (soE s (sout s b))) rfl (by kernel_rfl) ?_
        simp only [aP, lI, l0, lS]
        first | show Exit.then _ _ _ _ _ | show Exit.inBlock _ _ _ _ _
        go_upto_region 33 with fail
        refine wp_region_list ?_
        refine readL (.slice p68 ((soT s (sout s b)).length) c68) rfl (by kernel_rfl) ?_
        simp only [aP, lI, l0, lS]
        refine readL (.string (txt ((soT s (sout s b)).length) (bl (soT s (sout s b))))) rfl (conv_txt 28 5 9 _ rfl Tryz.underlying28 Tryz.underlying5 Tryz.underlying9 p68 ((soT s (sout s b)).length) c68 (bl (soT s (sout s b))) rfl _ (NewF.src O_68) (fun e => by have h1 := hnn_68 e; have h2 := hcc_68; omega)) ?_
        simp only [aP, lI, l0, lS]
        refine readL (.slice p69 ((soT s (sout s b)).length) c69) rfl (by kernel_rfl) ?_
        simp only [aP, lI, l0, lS]
        refine readL (.string (txt ((soT s (sout s b)).length) (bl (soT s (sout s b))))) rfl (conv_txt 28 5 9 _ rfl Tryz.underlying28 Tryz.underlying5 Tryz.underlying9 p69 ((soT s (sout s b)).length) c69 (bl (soT s (sout s b))) rfl _ (NewF.src O_69) (fun e => by have h1 := hnn_69 e; have h2 := hcc_69; omega)) ?_
        simp only [aP, lI, l0, lS]
        refine readL (.bool false) rfl (neqT _ _ _ _ _ _ rfl rfl rfl rfl _) ?_
        simp only [aP, lI, l0, lS]
        refine readL (.bool false) rfl (by kernel_rfl) ?_
        simp only [aP, lI, l0, lS]
        refine readL (.int .i64 (soE s (sout s b))) rfl (by kernel_rfl) ?_
        simp only [aP, lI, l0, lS]
        refine readL (.int .i64 (soE s (sout s b))) rfl (by kernel_rfl) ?_
        simp only [aP, lI, l0, lS]
        refine readL (.bool false) rfl (neqI .i64 _ _ _ _ _ _ rfl rfl rfl false (by simp) _) ?_
        simp only [aP, lI, l0, lS]
        refine readL (.bool false) rfl (by kernel_rfl) ?_
        simp only [aP, lI, l0, lS]
        first | show Exit.then _ _ _ _ _ | show Exit.inBlock _ _ _ _ _
        clear O_67 O_68 O_69
        replace M := M.swap
        go_upto_region 41 with fail
        refine wp_region_list ?_
        refine readL (.pointer (some ⟨A, 0, none⟩)) rfl (by kernel_rfl) ?_
        simp only [aP, lI, l0, lS]
        refine callL rfl (fun _ => by kernel_rfl) (hp.split w _ A _ (sopen s (sout s b)) hg (sopen_w hsw _) M) ?_
        rintro e w70 ⟨rfl, l⟩
        replace M := M.call l
        clear l
        refine ⟨_, rfl, ?_⟩
        simp only [aP, lI, l0, lS]
        refine readL (.tuple #[.agg (row .u8 32 (kA (sopen s (sout s b)).c 0 (bl []))).toArray, .agg (row .u8 32 (kB (sopen s (sout s b)).c 0 (bl []))).toArray]) rfl (by kernel_rfl) ?_
        simp only [aP, lI, l0, lS]
        refine readL (.agg (row .u8 32 (kA (sopen s (sout s b)).c 0 (bl []))).toArray) rfl (by kernel_rfl) ?_
        simp only [aP, lI, l0, lS]
        refine readL (.agg (row .u8 32 (kB (sopen s (sout s b)).c 0 (bl []))).toArray) rfl (by kernel_rfl) ?_
        simp only [aP, lI, l0, lS]
        refine actL (w' := w70.alloc (.cells zu8_32 38)) (.pointer (some ⟨w70.heap.size, 0, none⟩)) rfl (by kernel_rfl) ?_
        simp only [aP, lI, l0, lS]
        have hB_B71 : w.heap.size ≤ w70.heap.size := M.below.size
        replace M := M.box zu8_32 38 w70.heap.size rfl
        generalize w70.alloc (.cells zu8_32 38) = w71 at M  ⊢
        generalize eB : w70.heap.size = B71 at M hB_B71  ⊢
        have hE_B71 : w70.heap.size ≤ B71 := Nat.le_of_eq eB
        have hF_B71 : B71 ≤ w70.heap.size := Nat.le_of_eq eB.symm
        clear eB
        replace M : Mm w ([(B71, [.int .u8 0, .int .u8 0, .int .u8 0, .int .u8 0, .int .u8 0, .int .u8 0, .int .u8 0, .int .u8 0, .int .u8 0, .int .u8 0, .int .u8 0, .int .u8 0, .int .u8 0, .int .u8 0, .int .u8 0, .int .u8 0, .int .u8 0, .int .u8 0, .int .u8 0, .int .u8 0, .int .u8 0, .int .u8 0, .int .u8 0, .int .u8 0, .int .u8 0, .int .u8 0, .int .u8 0, .int .u8 0, .int .u8 0, .int .u8 0, .int .u8 0, .int .u8 0]), (A, pcs (sopen s (sout s b))), (B3, stc (sopen s (sout s b)))]) w71 := M
        refine actL (w' := w71.alloc (.cells zu8_32 38)) (.pointer (some ⟨w71.heap.size, 0, none⟩)) rfl (by kernel_rfl) ?_
        simp only [aP, lI, l0, lS]
        have hB_B72 : w.heap.size ≤ w71.heap.size := M.below.size
        replace M := M.box zu8_32 38 w71.heap.size rfl
        generalize w71.alloc (.cells zu8_32 38) = w72 at M  ⊢
        generalize eB : w71.heap.size = B72 at M hB_B72  ⊢
        have hE_B72 : w71.heap.size ≤ B72 := Nat.le_of_eq eB
        have hF_B72 : B72 ≤ w71.heap.size := Nat.le_of_eq eB.symm
        clear eB
        replace M : Mm w ([(B72, [.int .u8 0, .int .u8 0, .int .u8 0, .int .u8 0, .int .u8 0, .int .u8 0, .int .u8 0, .int .u8 0, .int .u8 0, .int .u8 0, .int .u8 0, .int .u8 0, .int .u8 0, .int .u8 0, .int .u8 0, .int .u8 0, .int .u8 0, .int .u8 0, .int .u8 0, .int .u8 0, .int .u8 0, .int .u8 0, .int .u8 0, .int .u8 0, .int .u8 0, .int .u8 0, .int .u8 0, .int .u8 0, .int .u8 0, .int .u8 0, .int .u8 0, .int .u8 0]), (B71, [.int .u8 0, .int .u8 0, .int .u8 0, .int .u8 0, .int .u8 0, .int .u8 0, .int .u8 0, .int .u8 0, .int .u8 0, .int .u8 0, .int .u8 0, .int .u8 0, .int .u8 0, .int .u8 0, .int .u8 0, .int .u8 0, .int .u8 0, .int .u8 0, .int .u8 0, .int .u8 0, .int .u8 0, .int .u8 0, .int .u8 0, .int .u8 0, .int .u8 0, .int .u8 0, .int .u8 0, .int .u8 0, .int .u8 0, .int .u8 0, .int .u8 0, .int .u8 0]), (A, pcs (sopen s (sout s b))), (B3, stc (sopen s (sout s b)))]) w72 := M
        replace M := M.swap
        refine skipOpL rfl (storeP (row .u8 32 (kA (sopen s (sout s b)).c 0 (bl []))) B71 0 38 _ _ rfl rfl rfl (M.thereP mS 0 32 (Nat.le_of_ble_eq_true rfl)) (by kernel_rfl) (row_one .u8 32 (kA (sopen s (sout s b)).c 0 (bl [])))) ?_
        simp only [Act.put]
        replace M := M.setAll (row .u8 32 (kA (sopen s (sout s b)).c 0 (bl []))) (by rw [row32]; rfl)
        generalize w72.setCells B71 0 (row .u8 32 (kA (sopen s (sout s b)).c 0 (bl []))) = w73 at M ⊢
        replace M := M.swap
        refine skipOpL rfl (storeP (row .u8 32 (kB (sopen s (sout s b)).c 0 (bl []))) B72 0 38 _ _ rfl rfl rfl (M.thereP mS 0 32 (Nat.le_of_ble_eq_true rfl)) (by kernel_rfl) (row_one .u8 32 (kB (sopen s (sout s b)).c 0 (bl [])))) ?_
        simp only [Act.put]
        replace M := M.setAll (row .u8 32 (kB (sopen s (sout s b)).c 0 (bl []))) (by rw [row32]; rfl)
        generalize w73.setCells B72 0 (row .u8 32 (kB (sopen s (sout s b)).c 0 (bl []))) = w74 at M ⊢
        first | show Exit.then _ _ _ _ _ | show Exit.inBlock _ _ _ _ _
        go_upto_region 42 with fail
        refine wp_region_list ?_
        refine readL (.pointer (some ⟨B3, 0, none⟩)) rfl (by kernel_rfl) ?_
        simp only [aP, lI, l0, lS]
        replace M := M.rot4
        refine callL rfl (fun _ => by kernel_rfl) (rsplit_any w _ B3 _ (sopen s (sout s b)) (sopen_w hsw _).c M) ?_
        rintro e w75 ⟨rfl, l⟩
        replace M := M.call l
        clear l
        refine ⟨_, rfl, ?_⟩
        simp only [aP, lI, l0, lS]
        refine readL (.tuple #[.agg (row .u8 32 (kA (sopen s (sout s b)).c 0 (bl []))).toArray, .agg (row .u8 32 (kB (sopen s (sout s b)).c 0 (bl []))).toArray]) rfl (by kernel_rfl) ?_
        simp only [aP, lI, l0, lS]
        refine readL (.agg (row .u8 32 (kA (sopen s (sout s b)).c 0 (bl []))).toArray) rfl (by kernel_rfl) ?_
        simp only [aP, lI, l0, lS]
        refine readL (.agg (row .u8 32 (kB (sopen s (sout s b)).c 0 (bl []))).toArray) rfl (by kernel_rfl) ?_
        simp only [aP, lI, l0, lS]
        refine actL (w' := w75.alloc (.cells zu8_32 38)) (.pointer (some ⟨w75.heap.size, 0, none⟩)) rfl (by kernel_rfl) ?_
        simp only [aP, lI, l0, lS]
        have hB_B76 : w.heap.size ≤ w75.heap.size := M.below.size
        replace M := M.box zu8_32 38 w75.heap.size rfl
        generalize w75.alloc (.cells zu8_32 38) = w76 at M  ⊢
        generalize eB : w75.heap.size = B76 at M hB_B76  ⊢
        have hE_B76 : w75.heap.size ≤ B76 := Nat.le_of_eq eB
        have hF_B76 : B76 ≤ w75.heap.size := Nat.le_of_eq eB.symm
        clear eB
        replace M : Mm w ([(B76, [.int .u8 0, .int .u8 0, .int .u8 0, .int .u8 0, .int .u8 0, .int .u8 0, .int .u8 0, .int .u8 0, .int .u8 0, .int .u8 0, .int .u8 0, .int .u8 0, .int .u8 0, .int .u8 0, .int .u8 0, .int .u8 0, .int .u8 0, .int .u8 0, .int .u8 0, .int .u8 0, .int .u8 0, .int .u8 0, .int .u8 0, .int .u8 0, .int .u8 0, .int .u8 0, .int .u8 0, .int .u8 0, .int .u8 0, .int .u8 0, .int .u8 0, .int .u8 0]), (B3, stc (sopen s (sout s b))), (B72, row .u8 32 (kB (sopen s (sout s b)).c 0 (bl []))), (B71, row .u8 32 (kA (sopen s (sout s b)).c 0 (bl []))), (A, pcs (sopen s (sout s b)))]) w76 := M
        refine actL (w' := w76.alloc (.cells zu8_32 38)) (.pointer (some ⟨w76.heap.size, 0, none⟩)) rfl (by kernel_rfl) ?_
        simp only [aP, lI, l0, lS]
        have hB_B77 : w.heap.size ≤ w76.heap.size := M.below.size
        replace M := M.box zu8_32 38 w76.heap.size rfl
        generalize w76.alloc (.cells zu8_32 38) = w77 at M  ⊢
        generalize eB : w76.heap.size = B77 at M hB_B77  ⊢
        have hE_B77 : w76.heap.size ≤ B77 := Nat.le_of_eq eB
        have hF_B77 : B77 ≤ w76.heap.size := Nat.le_of_eq eB.symm
        clear eB
        replace M : Mm w ([(B77, [.int .u8 0, .int .u8 0, .int .u8 0, .int .u8 0, .int .u8 0, .int .u8 0, .int .u8 0, .int .u8 0, .int .u8 0, .int .u8 0, .int .u8 0, .int .u8 0, .int .u8 0, .int .u8 0, .int .u8 0, .int .u8 0, .int .u8 0, .int .u8 0, .int .u8 0, .int .u8 0, .int .u8 0, .int .u8 0, .int .u8 0, .int .u8 0, .int .u8 0, .int .u8 0, .int .u8 0, .int .u8 0, .int .u8 0, .int .u8 0, .int .u8 0, .int .u8 0]), (B76, [.int .u8 0, .int .u8 0, .int .u8 0, .int .u8 0, .int .u8 0, .int .u8 0, .int .u8 0, .int .u8 0, .int .u8 0, .int .u8 0, .int .u8 0, .int .u8 0, .int .u8 0, .int .u8 0, .int .u8 0, .int .u8 0, .int .u8 0, .int .u8 0, .int .u8 0, .int .u8 0, .int .u8 0, .int .u8 0, .int .u8 0, .int .u8 0, .int .u8 0, .int .u8 0, .int .u8 0, .int .u8 0, .int .u8 0, .int .u8 0, .int .u8 0, .int .u8 0]), (B3, stc (sopen s (sout s b))), (B72, row .u8 32 (kB (sopen s (sout s b)).c 0 (bl []))), (B71, row .u8 32 (kA (sopen s (sout s b)).c 0 (bl []))), (A, pcs (sopen s (sout s b)))]) w77 := M
        replace M := M.swap
        refine skipOpL rfl (storeP (row .u8 32 (kA (sopen s (sout s b)).c 0 (bl []))) B76 0 38 _ _ rfl rfl rfl (M.thereP mS 0 32 (Nat.le_of_ble_eq_true rfl)) (by kernel_rfl) (row_one .u8 32 (kA (sopen s (sout s b)).c 0 (bl [])))) ?_
        simp only [Act.put]
        replace M := M.setAll (row .u8 32 (kA (sopen s (sout s b)).c 0 (bl []))) (by rw [row32]; rfl)
        generalize w77.setCells B76 0 (row .u8 32 (kA (sopen s (sout s b)).c 0 (bl []))) = w78 at M ⊢
        replace M := M.swap
        refine skipOpL rfl (storeP (row .u8 32 (kB (sopen s (sout s b)).c 0 (bl []))) B77 0 38 _ _ rfl rfl rfl (M.thereP mS 0 32 (Nat.le_of_ble_eq_true rfl)) (by kernel_rfl) (row_one .u8 32 (kB (sopen s (sout s b)).c 0 (bl [])))) ?_
        simp only [Act.put]
        replace M := M.setAll (row .u8 32 (kB (sopen s (sout s b)).c 0 (bl []))) (by rw [row32]; rfl)
        generalize w78.setCells B77 0 (row .u8 32 (kB (sopen s (sout s b)).c 0 (bl []))) = w79 at M ⊢
        first | show Exit.then _ _ _ _ _ | show Exit.inBlock _ _ _ _ _
        replace M : Mm w [(A, pcs (sopen s (sout s b))), (B77, row .u8 32 (kB (sopen s (sout s b)).c 0 (bl []))), (B76, row .u8 32 (kA (sopen s (sout s b)).c 0 (bl []))), (B3, stc (sopen s (sout s b))), (B72, row .u8 32 (kB (sopen s (sout s b)).c 0 (bl []))), (B71, row .u8 32 (kA (sopen s (sout s b)).c 0 (bl [])))] w79 := M.perm (List.perm_middle (l₁ := [(B77, row .u8 32 (kB (sopen s (sout s b)).c 0 (bl []))), (B76, row .u8 32 (kA (sopen s (sout s b)).c 0 (bl []))), (B3, stc (sopen s (sout s b))), (B72, row .u8 32 (kB (sopen s (sout s b)).c 0 (bl []))), (B71, row .u8 32 (kA (sopen s (sout s b)).c 0 (bl [])))]) (a := (A, pcs (sopen s (sout s b)))) (l₂ := []))
        go_upto_region 43 with fail
        refine wp_region_held_drew (S := fun w' => Mm w [(A, pcs (sopen s (sout s b))), (B77, row .u8 32 (kB (sopen s (sout s b)).c 0 (bl []))), (B76, row .u8 32 (kA (sopen s (sout s b)).c 0 (bl []))), (B3, stc (sopen s (sout s b))), (B72, row .u8 32 (kB (sopen s (sout s b)).c 0 (bl []))), (B71, row .u8 32 (kA (sopen s (sout s b)).c 0 (bl [])))] w') (by kernel_rfl) M.drew ?_
        clear M
        intro M
        generalize w79.drew = w80 at M ⊢
        refine readHg (i := 0) (some 149) rfl (.pointer (some ⟨A, 0, none⟩)) rfl rfl (fun _ M => (by kernel_rfl)) M ?_
        simp only [aP, lI, l0, lS]
        refine readHg (i := 2) (some 151) rfl (.pointer (some ⟨B3, 0, none⟩)) rfl rfl (fun _ M => (by kernel_rfl)) M ?_
        simp only [aP, lI, l0, lS]
        refine readHg (i := 3) (some 152) rfl (.pointer (some ⟨B3, 0, none⟩)) rfl rfl (fun _ M => (by kernel_rfl)) M ?_
        simp only [aP, lI, l0, lS]
        refine readHg (i := 4) (some 153) rfl (.pointer (some ⟨B3, 0, none⟩)) rfl rfl (fun _ M => (by kernel_rfl)) M ?_
        simp only [aP, lI, l0, lS]
        refine readHg (i := 5) (some 154) rfl (.agg (row .u8 32 ((sopen s (sout s b)).h)).toArray) rfl rfl (fun _ M => loadN 38 _ ⟨B3, 0, none⟩ (row .u8 32 (sopen s (sout s b)).h) rfl rfl (fun _ => by kernel_rfl) (fun _ => by rw [row32]; kernel_rfl) (M.part (mT _ (mT _ (mT _ mS))) 0 _ (stc_h (sopen s (sout s b))))) M ?_
        simp only [aP, lI, l0, lS]
        refine callH (i := 1) (some 150) rfl (by kernel_rfl) rfl rfl (fun _ => by kernel_rfl) (hp.hash w _ A _ (sopen s (sout s b)) hg M) ?_
        rintro e w81 ⟨rfl, l⟩
        replace M := M.call l
        clear l
        refine ⟨_, rfl, M, ?_⟩
        simp only [aP, lI, l0, lS]
        refine readHg (i := 6) (some 155) rfl (.bool false) rfl rfl (fun _ M => neqRow 32 .u8 ((sopen s (sout s b)).h) ((sopen s (sout s b)).h) 38 5 _ _ _ rfl rfl rfl Tryz.underlying38 Tryz.underlying5 (fun _ => by kernel_rfl) (by kernel_rfl) (fun _ _ => rfl) _) M ?_
        simp only [aP, lI, l0, lS]
        refine readHg (i := 7) (some 156) rfl (.bool false) rfl rfl (fun _ M => (by kernel_rfl)) M ?_
        simp only [aP, lI, l0, lS]
        refine readHg (i := 8) (some 157) rfl (.agg (row .u8 32 (kA (sopen s (sout s b)).c 0 (bl []))).toArray) rfl rfl (fun _ M => loadN 38 _ ⟨B71, 0, none⟩ (row .u8 32 (kA (sopen s (sout s b)).c 0 (bl []))) rfl rfl (fun _ => by kernel_rfl) (fun _ => by rw [row32]; kernel_rfl) (M.part (mT _ (mT _ (mT _ (mT _ (mT _ mS))))) 0 _ (by rw [List.drop_zero, List.take_length]))) M ?_
        simp only [aP, lI, l0, lS]
        refine readHg (i := 9) (some 158) rfl (.agg (row .u8 32 (kA (sopen s (sout s b)).c 0 (bl []))).toArray) rfl rfl (fun _ M => loadN 38 _ ⟨B76, 0, none⟩ (row .u8 32 (kA (sopen s (sout s b)).c 0 (bl []))) rfl rfl (fun _ => by kernel_rfl) (fun _ => by rw [row32]; kernel_rfl) (M.part (mT _ (mT _ mS)) 0 _ (by rw [List.drop_zero, List.take_length]))) M ?_
        simp only [aP, lI, l0, lS]
        refine readHg (i := 10) (some 159) rfl (.bool false) rfl rfl (fun _ M => neqRow 32 .u8 (kA (sopen s (sout s b)).c 0 (bl [])) (kA (sopen s (sout s b)).c 0 (bl [])) 38 5 _ _ _ rfl rfl rfl Tryz.underlying38 Tryz.underlying5 (fun _ => by kernel_rfl) (by kernel_rfl) (fun _ _ => rfl) _) M ?_
        simp only [aP, lI, l0, lS]
        refine readHg (i := 11) (some 160) rfl (.bool false) rfl rfl (fun _ M => (by kernel_rfl)) M ?_
        simp only [aP, lI, l0, lS]
        refine readHg (i := 12) (some 161) rfl (.bool false) rfl rfl (fun _ M => (by kernel_rfl)) M ?_
        simp only [aP, lI, l0, lS]
        refine readHg (i := 13) (some 162) rfl (.agg (row .u8 32 (kB (sopen s (sout s b)).c 0 (bl []))).toArray) rfl rfl (fun _ M => loadN 38 _ ⟨B72, 0, none⟩ (row .u8 32 (kB (sopen s (sout s b)).c 0 (bl []))) rfl rfl (fun _ => by kernel_rfl) (fun _ => by rw [row32]; kernel_rfl) (M.part (mT _ (mT _ (mT _ (mT _ mS)))) 0 _ (by rw [List.drop_zero, List.take_length]))) M ?_
        simp only [aP, lI, l0, lS]
        refine readHg (i := 14) (some 163) rfl (.agg (row .u8 32 (kB (sopen s (sout s b)).c 0 (bl []))).toArray) rfl rfl (fun _ M => loadN 38 _ ⟨B77, 0, none⟩ (row .u8 32 (kB (sopen s (sout s b)).c 0 (bl []))) rfl rfl (fun _ => by kernel_rfl) (fun _ => by rw [row32]; kernel_rfl) (M.part (mT _ mS) 0 _ (by rw [List.drop_zero, List.take_length]))) M ?_
        simp only [aP, lI, l0, lS]
        refine readHg (i := 15) (some 164) rfl (.bool false) rfl rfl (fun _ M => neqRow 32 .u8 (kB (sopen s (sout s b)).c 0 (bl [])) (kB (sopen s (sout s b)).c 0 (bl [])) 38 5 _ _ _ rfl rfl rfl Tryz.underlying38 Tryz.underlying5 (fun _ => by kernel_rfl) (by kernel_rfl) (fun _ _ => rfl) _) M ?_
        simp only [aP, lI, l0, lS]
        refine readHg (i := 16) (some 165) rfl (.bool false) rfl rfl (fun _ M => (by kernel_rfl)) M ?_
        simp only [aP, lI, l0, lS]
        refine wpAnyH_done (by kernel_rfl) ?_ _
        first | show Exit.then _ _ _ _ _ | show Exit.inBlock _ _ _ _ _
        replace M := M.rot4
        replace M := M.swap
        replace M : Mm w [(A, pcs (sopen s (sout s b))), (B3, stc (sopen s (sout s b)))] w81 := M.sub _ (List.Sublist.cons_cons _ (List.Sublist.cons_cons _ (List.nil_sublist _)))
        have HS := show Hid _ from M
        clear M
        go_wp2
        go_roundw
        case rel => first | exact ⟨j + 1, A, sopen s (sout s b), by omega, by omega, by go_num, rfl, sopen_w hsw _, (Nat.le_trans (sopen_n s (sout s b)) (by omega)), HS.out⟩ | ((repeat apply Exists.intro); refine ⟨⟨j + 1, A, sopen s (sout s b), by omega, by omega, ?_, rfl, sopen_w hsw _, (Nat.le_trans (sopen_n s (sout s b)) (by omega)), HS.out⟩, rfl, rfl⟩ <;> first | rfl | go_num)
        case measure => simp [intOf]; omega
      · go_upto_region 11 with fail
        refine wp_region_list ?_
        refine readL (.bool false) rfl (eqlI .i64 _ _ _ _ _ _ rfl rfl rfl false (by rw [hkd]; rfl) _) ?_
        simp only [aP, lI, l0, lS]
        refine readL (.bool false) rfl (by kernel_rfl) ?_
        simp only [aP, lI, l0, lS]
        first | show Exit.then _ _ _ _ _ | show Exit.inBlock _ _ _ _ _
        go_upto_region 14 with fail
        refine wp_region_list ?_
        refine readL (.bool false) rfl (eqlI .i64 _ _ _ _ _ _ rfl rfl rfl false (by rw [hkd]; rfl) _) ?_
        simp only [aP, lI, l0, lS]
        refine readL (.bool false) rfl (by kernel_rfl) ?_
        simp only [aP, lI, l0, lS]
        first | show Exit.then _ _ _ _ _ | show Exit.inBlock _ _ _ _ _
        go_upto_region 17 with fail
        refine wp_region_list ?_
        refine readL (.bool false) rfl (eqlI .i64 _ _ _ _ _ _ rfl rfl rfl false (by rw [hkd]; rfl) _) ?_
        simp only [aP, lI, l0, lS]
        refine readL (.bool false) rfl (by kernel_rfl) ?_
        simp only [aP, lI, l0, lS]
        first | show Exit.then _ _ _ _ _ | show Exit.inBlock _ _ _ _ _
        go_upto_region 27 with fail
        refine wp_region_list ?_
        refine readL (.bool false) rfl (eqlI .i64 _ _ _ _ _ _ rfl rfl rfl false (by rw [hkd]; rfl) _) ?_
        simp only [aP, lI, l0, lS]
        refine readL (.bool false) rfl (by kernel_rfl) ?_
        simp only [aP, lI, l0, lS]
        first | show Exit.then _ _ _ _ _ | show Exit.inBlock _ _ _ _ _
        go_upto_region 28 with fail
        refine wp_region_list ?_
        refine readL (.bool false) rfl (eqlI .i64 _ _ _ _ _ _ rfl rfl rfl false (by rw [hkd]; rfl) _) ?_
        simp only [aP, lI, l0, lS]
        refine readL (.bool false) rfl (by kernel_rfl) ?_
        simp only [aP, lI, l0, lS]
        first | show Exit.then _ _ _ _ _ | show Exit.inBlock _ _ _ _ _
        go_upto_region 35 with fail
        refine wp_region_list ?_
        refine readL (.bool true) rfl (eqlI .i64 _ _ _ _ _ _ rfl rfl rfl true (by rw [hkd]; rfl) _) ?_
        simp only [aP, lI, l0, lS]
        refine readL (.bool true) rfl (by kernel_rfl) ?_
        simp only [aP, lI, l0, lS]
        first | show Exit.then _ _ _ _ _ | show Exit.inBlock _ _ _ _ _
        go_upto_region 36 with fail
        refine wp_region_list ?_
        refine readL (.pointer (some ⟨A, 0, none⟩)) rfl (by kernel_rfl) ?_
        simp only [aP, lI, l0, lS]
        refine readL (.pointer (some ⟨A, 0, none⟩)) rfl (by kernel_rfl) ?_
        simp only [aP, lI, l0, lS]
        first | show Exit.then _ _ _ _ _ | show Exit.inBlock _ _ _ _ _
        go_upto_region 37 with fail
        refine wp_region_list ?_
        refine readL (.pointer (some ⟨A, 0, none⟩)) rfl (by kernel_rfl) ?_
        simp only [aP, lI, l0, lS]
        refine callL rfl (fun _ => by kernel_rfl) (hcl w _ A _ s hg M) ?_
        rintro e w82 ⟨B82, rfl, hnew_B82, M', l⟩
        clear M
        have M := M'
        clear M'
        clear l
        refine ⟨_, rfl, ?_⟩
        simp only [aP, lI, l0, lS]
        have hlo_B82 : w.heap.size ≤ B82 := (M.rows _ mS).2.1
        refine readL (.pointer (some ⟨B82, 0, none⟩)) rfl (by kernel_rfl) ?_
        simp only [aP, lI, l0, lS]
        first | show Exit.then _ _ _ _ _ | show Exit.inBlock _ _ _ _ _
        go_upto_region 38 with fail
        refine wp_region_list ?_
        refine readL (.pointer (some ⟨B82, 0, none⟩)) rfl (by kernel_rfl) ?_
        simp only [aP, lI, l0, lS]
        refine readL (.bool false) rfl (by kernel_rfl) ?_
        simp only [aP, lI, l0, lS]
        first | show Exit.then _ _ _ _ _ | show Exit.inBlock _ _ _ _ _
        go_upto_region 40 with fail
        refine wp_region_list ?_
        refine readL (.pointer (some ⟨A, 0, none⟩)) rfl (by kernel_rfl) ?_
        simp only [aP, lI, l0, lS]
        refine actL (w' := w82.alloc (.cells (row .u8 11 (bl [97, 110, 111, 116, 104, 101, 114, 32, 119, 97, 121])).toArray 5)) (.slice (some ⟨w82.heap.size, 0, none⟩) 11 11) rfl (by kernel_rfl) ?_
        simp only [aP, lI, l0, lS]
        refine actL (.slice (some ⟨w82.heap.size, 0, none⟩) 11 11) rfl (conv_const 28 5 (row .u8 11 (bl [97, 110, 111, 116, 104, 101, 114, 32, 119, 97, 121])).toArray 11 11 _ rfl rfl Tryz.underlying28 Tryz.underlying5) ?_
        simp only [aP, lI, l0, lS]
        have A_83 : SrcA [B82, A, B3] (w82.alloc (.cells (row .u8 11 (bl [97, 110, 111, 116, 104, 101, 114, 32, 119, 97, 121])).toArray 5 ((row .u8 11 (bl [97, 110, 111, 116, 104, 101, 114, 32, 119, 97, 121])).toArray.size, (row .u8 11 (bl [97, 110, 111, 116, 104, 101, 114, 32, 119, 97, 121])).toArray.size + 1))) (some ⟨w82.heap.size, 0, none⟩) 11 (bl [97, 110, 111, 116, 104, 101, 114, 32, 119, 97, 121]) := ⟨(has_marked w82 .u8 11 (bl [97, 110, 111, 116, 104, 101, 114, 32, 119, 97, 121]) 5).src0, fun ad e _ hm => by
          injection e with e
          subst e
          simp only [List.mem_cons, List.not_mem_nil, or_false] at hm
          have h0 := M.lt mS
          have h1 := M.lt (mT _ mS)
          have h2 := M.lt (mT _ (mT _ mS))
          omega⟩
        have hlb := (Below.refl w82.heap.size w82).alloc (Nat.le_refl _) (.cells (row .u8 11 (bl [97, 110, 111, 116, 104, 101, 114, 32, 119, 97, 121])).toArray 5 ((row .u8 11 (bl [97, 110, 111, 116, 104, 101, 114, 32, 119, 97, 121])).toArray.size, (row .u8 11 (bl [97, 110, 111, 116, 104, 101, 114, 32, 119, 97, 121])).toArray.size + 1))
        replace M := M.call hlb
        clear hlb
        generalize w82.alloc (.cells (row .u8 11 (bl [97, 110, 111, 116, 104, 101, 114, 32, 119, 97, 121])).toArray 5 ((row .u8 11 (bl [97, 110, 111, 116, 104, 101, 114, 32, 119, 97, 121])).toArray.size, (row .u8 11 (bl [97, 110, 111, 116, 104, 101, 114, 32, 119, 97, 121])).toArray.size + 1)) = w83 at M A_83  ⊢
        generalize (some ⟨w82.heap.size, 0, none⟩ : Option Addr) = p83 at A_83 ⊢
        have hnp_83 : p83 = none → (11 : Nat) = 0 := fun e => by obtain ⟨ad, h1, _⟩ := A_83.1 0 (by decide); rw [e] at h1; cases h1
        replace M := M.swap
        refine callL rfl (fun _ => by kernel_rfl) (hp.mix w _ A _ s hg hsw p83 11 ([97, 110, 111, 116, 104, 101, 114, 32, 119, 97, 121]) (by decide) (by decide) (fun e => hnp_83 e) (by unfold Byts; decide) M (A_83.less (fun b hb => by obtain rfl := List.mem_singleton.1 hb; simp))) ?_
        rintro e w84 ⟨rfl, M', o1⟩
        clear M
        have M := M'
        clear M'
        replace A_83 := A_83.off (o1.mono (fun x hx => by obtain rfl := List.mem_singleton.1 hx; simp))
        clear o1
        refine ⟨_, rfl, ?_⟩
        simp only [aP, lI, l0, lS]
        clear A_83 hnp_83
        first | show Exit.then _ _ _ _ _ | show Exit.inBlock _ _ _ _ _
        replace M := M.rot3
        replace M := M.rot3
        replace M : Mm w [(B82, pcs s), (B3, stc s)] w84 := M.sub _ (List.Sublist.cons_cons _ (List.Sublist.cons_cons _ (List.nil_sublist _)))
        go_upto_region 41 with fail
        refine wp_region_list ?_
        refine readL (.pointer (some ⟨B82, 0, none⟩)) rfl (by kernel_rfl) ?_
        simp only [aP, lI, l0, lS]
        refine callL rfl (fun _ => by kernel_rfl) (hp.split w _ B82 _ s hg hsw M) ?_
        rintro e w85 ⟨rfl, l⟩
        replace M := M.call l
        clear l
        refine ⟨_, rfl, ?_⟩
        simp only [aP, lI, l0, lS]
        refine readL (.tuple #[.agg (row .u8 32 (kA s.c 0 (bl []))).toArray, .agg (row .u8 32 (kB s.c 0 (bl []))).toArray]) rfl (by kernel_rfl) ?_
        simp only [aP, lI, l0, lS]
        refine readL (.agg (row .u8 32 (kA s.c 0 (bl []))).toArray) rfl (by kernel_rfl) ?_
        simp only [aP, lI, l0, lS]
        refine readL (.agg (row .u8 32 (kB s.c 0 (bl []))).toArray) rfl (by kernel_rfl) ?_
        simp only [aP, lI, l0, lS]
        refine actL (w' := w85.alloc (.cells zu8_32 38)) (.pointer (some ⟨w85.heap.size, 0, none⟩)) rfl (by kernel_rfl) ?_
        simp only [aP, lI, l0, lS]
        have hB_B86 : w.heap.size ≤ w85.heap.size := M.below.size
        replace M := M.box zu8_32 38 w85.heap.size rfl
        generalize w85.alloc (.cells zu8_32 38) = w86 at M  ⊢
        generalize eB : w85.heap.size = B86 at M hB_B86  ⊢
        have hE_B86 : w85.heap.size ≤ B86 := Nat.le_of_eq eB
        have hF_B86 : B86 ≤ w85.heap.size := Nat.le_of_eq eB.symm
        clear eB
        replace M : Mm w ([(B86, [.int .u8 0, .int .u8 0, .int .u8 0, .int .u8 0, .int .u8 0, .int .u8 0, .int .u8 0, .int .u8 0, .int .u8 0, .int .u8 0, .int .u8 0, .int .u8 0, .int .u8 0, .int .u8 0, .int .u8 0, .int .u8 0, .int .u8 0, .int .u8 0, .int .u8 0, .int .u8 0, .int .u8 0, .int .u8 0, .int .u8 0, .int .u8 0, .int .u8 0, .int .u8 0, .int .u8 0, .int .u8 0, .int .u8 0, .int .u8 0, .int .u8 0, .int .u8 0]), (B82, pcs s), (B3, stc s)]) w86 := M
        refine actL (w' := w86.alloc (.cells zu8_32 38)) (.pointer (some ⟨w86.heap.size, 0, none⟩)) rfl (by kernel_rfl) ?_
        simp only [aP, lI, l0, lS]
        have hB_B87 : w.heap.size ≤ w86.heap.size := M.below.size
        replace M := M.box zu8_32 38 w86.heap.size rfl
        generalize w86.alloc (.cells zu8_32 38) = w87 at M  ⊢
        generalize eB : w86.heap.size = B87 at M hB_B87  ⊢
        have hE_B87 : w86.heap.size ≤ B87 := Nat.le_of_eq eB
        have hF_B87 : B87 ≤ w86.heap.size := Nat.le_of_eq eB.symm
        clear eB
        replace M : Mm w ([(B87, [.int .u8 0, .int .u8 0, .int .u8 0, .int .u8 0, .int .u8 0, .int .u8 0, .int .u8 0, .int .u8 0, .int .u8 0, .int .u8 0, .int .u8 0, .int .u8 0, .int .u8 0, .int .u8 0, .int .u8 0, .int .u8 0, .int .u8 0, .int .u8 0, .int .u8 0, .int .u8 0, .int .u8 0, .int .u8 0, .int .u8 0, .int .u8 0, .int .u8 0, .int .u8 0, .int .u8 0, .int .u8 0, .int .u8 0, .int .u8 0, .int .u8 0, .int .u8 0]), (B86, [.int .u8 0, .int .u8 0, .int .u8 0, .int .u8 0, .int .u8 0, .int .u8 0, .int .u8 0, .int .u8 0, .int .u8 0, .int .u8 0, .int .u8 0, .int .u8 0, .int .u8 0, .int .u8 0, .int .u8 0, .int .u8 0, .int .u8 0, .int .u8 0, .int .u8 0, .int .u8 0, .int .u8 0, .int .u8 0, .int .u8 0, .int .u8 0, .int .u8 0, .int .u8 0, .int .u8 0, .int .u8 0, .int .u8 0, .int .u8 0, .int .u8 0, .int .u8 0]), (B82, pcs s), (B3, stc s)]) w87 := M
        replace M := M.swap
        refine skipOpL rfl (storeP (row .u8 32 (kA s.c 0 (bl []))) B86 0 38 _ _ rfl rfl rfl (M.thereP mS 0 32 (Nat.le_of_ble_eq_true rfl)) (by kernel_rfl) (row_one .u8 32 (kA s.c 0 (bl [])))) ?_
        simp only [Act.put]
        replace M := M.setAll (row .u8 32 (kA s.c 0 (bl []))) (by rw [row32]; rfl)
        generalize w87.setCells B86 0 (row .u8 32 (kA s.c 0 (bl []))) = w88 at M ⊢
        replace M := M.swap
        refine skipOpL rfl (storeP (row .u8 32 (kB s.c 0 (bl []))) B87 0 38 _ _ rfl rfl rfl (M.thereP mS 0 32 (Nat.le_of_ble_eq_true rfl)) (by kernel_rfl) (row_one .u8 32 (kB s.c 0 (bl [])))) ?_
        simp only [Act.put]
        replace M := M.setAll (row .u8 32 (kB s.c 0 (bl []))) (by rw [row32]; rfl)
        generalize w88.setCells B87 0 (row .u8 32 (kB s.c 0 (bl []))) = w89 at M ⊢
        first | show Exit.then _ _ _ _ _ | show Exit.inBlock _ _ _ _ _
        go_upto_region 42 with fail
        refine wp_region_list ?_
        refine readL (.pointer (some ⟨B3, 0, none⟩)) rfl (by kernel_rfl) ?_
        simp only [aP, lI, l0, lS]
        replace M := M.rot4
        refine callL rfl (fun _ => by kernel_rfl) (rsplit_any w _ B3 _ s hsw.c M) ?_
        rintro e w90 ⟨rfl, l⟩
        replace M := M.call l
        clear l
        refine ⟨_, rfl, ?_⟩
        simp only [aP, lI, l0, lS]
        refine readL (.tuple #[.agg (row .u8 32 (kA s.c 0 (bl []))).toArray, .agg (row .u8 32 (kB s.c 0 (bl []))).toArray]) rfl (by kernel_rfl) ?_
        simp only [aP, lI, l0, lS]
        refine readL (.agg (row .u8 32 (kA s.c 0 (bl []))).toArray) rfl (by kernel_rfl) ?_
        simp only [aP, lI, l0, lS]
        refine readL (.agg (row .u8 32 (kB s.c 0 (bl []))).toArray) rfl (by kernel_rfl) ?_
        simp only [aP, lI, l0, lS]
        refine actL (w' := w90.alloc (.cells zu8_32 38)) (.pointer (some ⟨w90.heap.size, 0, none⟩)) rfl (by kernel_rfl) ?_
        simp only [aP, lI, l0, lS]
        have hB_B91 : w.heap.size ≤ w90.heap.size := M.below.size
        replace M := M.box zu8_32 38 w90.heap.size rfl
        generalize w90.alloc (.cells zu8_32 38) = w91 at M  ⊢
        generalize eB : w90.heap.size = B91 at M hB_B91  ⊢
        have hE_B91 : w90.heap.size ≤ B91 := Nat.le_of_eq eB
        have hF_B91 : B91 ≤ w90.heap.size := Nat.le_of_eq eB.symm
        clear eB
        replace M : Mm w ([(B91, [.int .u8 0, .int .u8 0, .int .u8 0, .int .u8 0, .int .u8 0, .int .u8 0, .int .u8 0, .int .u8 0, .int .u8 0, .int .u8 0, .int .u8 0, .int .u8 0, .int .u8 0, .int .u8 0, .int .u8 0, .int .u8 0, .int .u8 0, .int .u8 0, .int .u8 0, .int .u8 0, .int .u8 0, .int .u8 0, .int .u8 0, .int .u8 0, .int .u8 0, .int .u8 0, .int .u8 0, .int .u8 0, .int .u8 0, .int .u8 0, .int .u8 0, .int .u8 0]), (B3, stc s), (B87, row .u8 32 (kB s.c 0 (bl []))), (B86, row .u8 32 (kA s.c 0 (bl []))), (B82, pcs s)]) w91 := M
        refine actL (w' := w91.alloc (.cells zu8_32 38)) (.pointer (some ⟨w91.heap.size, 0, none⟩)) rfl (by kernel_rfl) ?_
        simp only [aP, lI, l0, lS]
        have hB_B92 : w.heap.size ≤ w91.heap.size := M.below.size
        replace M := M.box zu8_32 38 w91.heap.size rfl
        generalize w91.alloc (.cells zu8_32 38) = w92 at M  ⊢
        generalize eB : w91.heap.size = B92 at M hB_B92  ⊢
        have hE_B92 : w91.heap.size ≤ B92 := Nat.le_of_eq eB
        have hF_B92 : B92 ≤ w91.heap.size := Nat.le_of_eq eB.symm
        clear eB
        replace M : Mm w ([(B92, [.int .u8 0, .int .u8 0, .int .u8 0, .int .u8 0, .int .u8 0, .int .u8 0, .int .u8 0, .int .u8 0, .int .u8 0, .int .u8 0, .int .u8 0, .int .u8 0, .int .u8 0, .int .u8 0, .int .u8 0, .int .u8 0, .int .u8 0, .int .u8 0, .int .u8 0, .int .u8 0, .int .u8 0, .int .u8 0, .int .u8 0, .int .u8 0, .int .u8 0, .int .u8 0, .int .u8 0, .int .u8 0, .int .u8 0, .int .u8 0, .int .u8 0, .int .u8 0]), (B91, [.int .u8 0, .int .u8 0, .int .u8 0, .int .u8 0, .int .u8 0, .int .u8 0, .int .u8 0, .int .u8 0, .int .u8 0, .int .u8 0, .int .u8 0, .int .u8 0, .int .u8 0, .int .u8 0, .int .u8 0, .int .u8 0, .int .u8 0, .int .u8 0, .int .u8 0, .int .u8 0, .int .u8 0, .int .u8 0, .int .u8 0, .int .u8 0, .int .u8 0, .int .u8 0, .int .u8 0, .int .u8 0, .int .u8 0, .int .u8 0, .int .u8 0, .int .u8 0]), (B3, stc s), (B87, row .u8 32 (kB s.c 0 (bl []))), (B86, row .u8 32 (kA s.c 0 (bl []))), (B82, pcs s)]) w92 := M
        replace M := M.swap
        refine skipOpL rfl (storeP (row .u8 32 (kA s.c 0 (bl []))) B91 0 38 _ _ rfl rfl rfl (M.thereP mS 0 32 (Nat.le_of_ble_eq_true rfl)) (by kernel_rfl) (row_one .u8 32 (kA s.c 0 (bl [])))) ?_
        simp only [Act.put]
        replace M := M.setAll (row .u8 32 (kA s.c 0 (bl []))) (by rw [row32]; rfl)
        generalize w92.setCells B91 0 (row .u8 32 (kA s.c 0 (bl []))) = w93 at M ⊢
        replace M := M.swap
        refine skipOpL rfl (storeP (row .u8 32 (kB s.c 0 (bl []))) B92 0 38 _ _ rfl rfl rfl (M.thereP mS 0 32 (Nat.le_of_ble_eq_true rfl)) (by kernel_rfl) (row_one .u8 32 (kB s.c 0 (bl [])))) ?_
        simp only [Act.put]
        replace M := M.setAll (row .u8 32 (kB s.c 0 (bl []))) (by rw [row32]; rfl)
        generalize w93.setCells B92 0 (row .u8 32 (kB s.c 0 (bl []))) = w94 at M ⊢
        first | show Exit.then _ _ _ _ _ | show Exit.inBlock _ _ _ _ _
        replace M : Mm w [(B82, pcs s), (B92, row .u8 32 (kB s.c 0 (bl []))), (B91, row .u8 32 (kA s.c 0 (bl []))), (B3, stc s), (B87, row .u8 32 (kB s.c 0 (bl []))), (B86, row .u8 32 (kA s.c 0 (bl [])))] w94 := M.perm (List.perm_middle (l₁ := [(B92, row .u8 32 (kB s.c 0 (bl []))), (B91, row .u8 32 (kA s.c 0 (bl []))), (B3, stc s), (B87, row .u8 32 (kB s.c 0 (bl []))), (B86, row .u8 32 (kA s.c 0 (bl [])))]) (a := (B82, pcs s)) (l₂ := []))
        go_upto_region 43 with fail
        refine wp_region_held_drew (S := fun w' => Mm w [(B82, pcs s), (B92, row .u8 32 (kB s.c 0 (bl []))), (B91, row .u8 32 (kA s.c 0 (bl []))), (B3, stc s), (B87, row .u8 32 (kB s.c 0 (bl []))), (B86, row .u8 32 (kA s.c 0 (bl [])))] w') (by kernel_rfl) M.drew ?_
        clear M
        intro M
        generalize w94.drew = w95 at M ⊢
        refine readHg (i := 0) (some 149) rfl (.pointer (some ⟨B82, 0, none⟩)) rfl rfl (fun _ M => (by kernel_rfl)) M ?_
        simp only [aP, lI, l0, lS]
        refine readHg (i := 2) (some 151) rfl (.pointer (some ⟨B3, 0, none⟩)) rfl rfl (fun _ M => (by kernel_rfl)) M ?_
        simp only [aP, lI, l0, lS]
        refine readHg (i := 3) (some 152) rfl (.pointer (some ⟨B3, 0, none⟩)) rfl rfl (fun _ M => (by kernel_rfl)) M ?_
        simp only [aP, lI, l0, lS]
        refine readHg (i := 4) (some 153) rfl (.pointer (some ⟨B3, 0, none⟩)) rfl rfl (fun _ M => (by kernel_rfl)) M ?_
        simp only [aP, lI, l0, lS]
        refine readHg (i := 5) (some 154) rfl (.agg (row .u8 32 s.h).toArray) rfl rfl (fun _ M => loadN 38 _ ⟨B3, 0, none⟩ (row .u8 32 s.h) rfl rfl (fun _ => by kernel_rfl) (fun _ => by rw [row32]; kernel_rfl) (M.part (mT _ (mT _ (mT _ mS))) 0 _ (stc_h s))) M ?_
        simp only [aP, lI, l0, lS]
        refine callH (i := 1) (some 150) rfl (by kernel_rfl) rfl rfl (fun _ => by kernel_rfl) (hp.hash w _ B82 _ s hg M) ?_
        rintro e w96 ⟨rfl, l⟩
        replace M := M.call l
        clear l
        refine ⟨_, rfl, M, ?_⟩
        simp only [aP, lI, l0, lS]
        refine readHg (i := 6) (some 155) rfl (.bool false) rfl rfl (fun _ M => neqRow 32 .u8 s.h s.h 38 5 _ _ _ rfl rfl rfl Tryz.underlying38 Tryz.underlying5 (fun _ => by kernel_rfl) (by kernel_rfl) (fun _ _ => rfl) _) M ?_
        simp only [aP, lI, l0, lS]
        refine readHg (i := 7) (some 156) rfl (.bool false) rfl rfl (fun _ M => (by kernel_rfl)) M ?_
        simp only [aP, lI, l0, lS]
        refine readHg (i := 8) (some 157) rfl (.agg (row .u8 32 (kA s.c 0 (bl []))).toArray) rfl rfl (fun _ M => loadN 38 _ ⟨B86, 0, none⟩ (row .u8 32 (kA s.c 0 (bl []))) rfl rfl (fun _ => by kernel_rfl) (fun _ => by rw [row32]; kernel_rfl) (M.part (mT _ (mT _ (mT _ (mT _ (mT _ mS))))) 0 _ (by rw [List.drop_zero, List.take_length]))) M ?_
        simp only [aP, lI, l0, lS]
        refine readHg (i := 9) (some 158) rfl (.agg (row .u8 32 (kA s.c 0 (bl []))).toArray) rfl rfl (fun _ M => loadN 38 _ ⟨B91, 0, none⟩ (row .u8 32 (kA s.c 0 (bl []))) rfl rfl (fun _ => by kernel_rfl) (fun _ => by rw [row32]; kernel_rfl) (M.part (mT _ (mT _ mS)) 0 _ (by rw [List.drop_zero, List.take_length]))) M ?_
        simp only [aP, lI, l0, lS]
        refine readHg (i := 10) (some 159) rfl (.bool false) rfl rfl (fun _ M => neqRow 32 .u8 (kA s.c 0 (bl [])) (kA s.c 0 (bl [])) 38 5 _ _ _ rfl rfl rfl Tryz.underlying38 Tryz.underlying5 (fun _ => by kernel_rfl) (by kernel_rfl) (fun _ _ => rfl) _) M ?_
        simp only [aP, lI, l0, lS]
        refine readHg (i := 11) (some 160) rfl (.bool false) rfl rfl (fun _ M => (by kernel_rfl)) M ?_
        simp only [aP, lI, l0, lS]
        refine readHg (i := 12) (some 161) rfl (.bool false) rfl rfl (fun _ M => (by kernel_rfl)) M ?_
        simp only [aP, lI, l0, lS]
        refine readHg (i := 13) (some 162) rfl (.agg (row .u8 32 (kB s.c 0 (bl []))).toArray) rfl rfl (fun _ M => loadN 38 _ ⟨B87, 0, none⟩ (row .u8 32 (kB s.c 0 (bl []))) rfl rfl (fun _ => by kernel_rfl) (fun _ => by rw [row32]; kernel_rfl) (M.part (mT _ (mT _ (mT _ (mT _ mS)))) 0 _ (by rw [List.drop_zero, List.take_length]))) M ?_
        simp only [aP, lI, l0, lS]
        refine readHg (i := 14) (some 163) rfl (.agg (row .u8 32 (kB s.c 0 (bl []))).toArray) rfl rfl (fun _ M => loadN 38 _ ⟨B92, 0, none⟩ (row .u8 32 (kB s.c 0 (bl []))) rfl rfl (fun _ => by kernel_rfl) (fun _ => by rw [row32]; kernel_rfl) (M.part (mT _ mS) 0 _ (by rw [List.drop_zero, List.take_length]))) M ?_
        simp only [aP, lI, l0, lS]
        refine readHg (i := 15) (some 164) rfl (.bool false) rfl rfl (fun _ M => neqRow 32 .u8 (kB s.c 0 (bl [])) (kB s.c 0 (bl [])) 38 5 _ _ _ rfl rfl rfl Tryz.underlying38 Tryz.underlying5 (fun _ => by kernel_rfl) (by kernel_rfl) (fun _ _ => rfl) _) M ?_
        simp only [aP, lI, l0, lS]
        refine readHg (i := 16) (some 165) rfl (.bool false) rfl rfl (fun _ M => (by kernel_rfl)) M ?_
        simp only [aP, lI, l0, lS]
        refine wpAnyH_done (by kernel_rfl) ?_ _
        first | show Exit.then _ _ _ _ _ | show Exit.inBlock _ _ _ _ _
        replace M := M.rot4
        replace M := M.swap
        replace M : Mm w [(B82, pcs s), (B3, stc s)] w96 := M.sub _ (List.Sublist.cons_cons _ (List.Sublist.cons_cons _ (List.nil_sublist _)))
        have HS := show Hid _ from M
        clear M
        go_wp2
        go_roundw
        case rel => first | exact ⟨j + 1, B82, s, by omega, by omega, by go_num, rfl, hsw, (by omega), HS.out⟩ | ((repeat apply Exists.intro); refine ⟨⟨j + 1, B82, s, by omega, by omega, ?_, rfl, hsw, (by omega), HS.out⟩, rfl, rfl⟩ <;> first | rfl | go_num)
        case measure => simp [intOf]; omega
    · by_cases hl2 : j < ops.length
      · go_upto_region 7 with fail
        refine wp_region_list ?_
        refine readL (.int .i64 (j : Int)) rfl (by kernel_rfl) ?_
        simp only [aP, lI, l0, lS]
        refine readL (.slice sp ops.length cap) rfl (by kernel_rfl) ?_
        simp only [aP, lI, l0, lS]
        refine readL (.int .i64 ((ops.length : Nat) : Int)) rfl (lenS _ 22 30 sp ops.length cap rfl Tryz.underlying22 rfl _) ?_
        simp only [aP, lI, l0, lS]
        refine readL (.bool true) rfl (lssI .i64 _ _ _ _ _ _ rfl rfl rfl true (decide_eq_true (by omega)) _) ?_
        simp only [aP, lI, l0, lS]
        refine readL (.bool true) rfl (by kernel_rfl) ?_
        simp only [aP, lI, l0, lS]
        refine readL (.int .i64 (j : Int)) rfl (by kernel_rfl) ?_
        simp only [aP, lI, l0, lS]
        refine readL (.bool false) rfl (lssI .i64 _ _ _ _ _ _ rfl rfl rfl false (decide_eq_false (by omega)) _) ?_
        simp only [aP, lI, l0, lS]
        refine readL (.bool false) rfl (by kernel_rfl) ?_
        simp only [aP, lI, l0, lS]
        first | show Exit.then _ _ _ _ _ | show Exit.inBlock _ _ _ _ _
        go_upto_region 45 with fail
        refine wp_region_list ?_
        refine readL (.bool true) rfl (by kernel_rfl) ?_
        simp only [aP, lI, l0, lS]
        first | show Exit.then _ _ _ _ _ | show Exit.inBlock _ _ _ _ _
        have hBel := M.below
        clear M
        go_wp2
        go_ret
        exact ⟨rfl, hBel⟩
      · go_upto_region 7 with fail
        refine wp_region_list ?_
        refine readL (.int .i64 (j : Int)) rfl (by kernel_rfl) ?_
        simp only [aP, lI, l0, lS]
        refine readL (.slice sp ops.length cap) rfl (by kernel_rfl) ?_
        simp only [aP, lI, l0, lS]
        refine readL (.int .i64 ((ops.length : Nat) : Int)) rfl (lenS _ 22 30 sp ops.length cap rfl Tryz.underlying22 rfl _) ?_
        simp only [aP, lI, l0, lS]
        refine readL (.bool false) rfl (lssI .i64 _ _ _ _ _ _ rfl rfl rfl false (decide_eq_false (by omega)) _) ?_
        simp only [aP, lI, l0, lS]
        refine readL (.bool false) rfl (by kernel_rfl) ?_
        simp only [aP, lI, l0, lS]
        with_reducible refine skipL ?_ ?_
        · rfl
        simp only [aP, lI, l0, lS]
        with_reducible refine skipL ?_ ?_
        · rfl
        simp only [aP, lI, l0, lS]
        refine readL (.bool false) rfl (by kernel_rfl) ?_
        simp only [aP, lI, l0, lS]
        first | show Exit.then _ _ _ _ _ | show Exit.inBlock _ _ _ _ _
        go_upto_region 45 with fail
        refine wp_region_list ?_
        refine readL (.bool true) rfl (by kernel_rfl) ?_
        simp only [aP, lI, l0, lS]
        first | show Exit.then _ _ _ _ _ | show Exit.inBlock _ _ _ _ _
        have hBel := M.below
        clear M
        go_wp2
        go_ret
        exact ⟨rfl, hBel⟩
end Go.Proofs.YtgfpflcoknpbdaaGreatDoor
