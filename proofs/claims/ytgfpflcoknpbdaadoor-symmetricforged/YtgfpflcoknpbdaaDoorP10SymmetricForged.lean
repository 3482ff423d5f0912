/- Texts of LawSymmetricForged Vk Yo Bd, joined. -/
import Derived.Test.YtgfpflcoknpbdaaDoorP1SymmetricForged
import Derived.Test.YtgfpflcoknpbdaaDoorP9SymmetricForged
import Derived.Test.YtgfpflcoknpbdaaDoorP6SymmetricForged
import Derived.Test.YtgfpflcoknpbdaaDoorP7SymmetricForged
import Derived.Lib.SliceRun
import Derived.Test.YtgfpflcoknpbdaaDoorP8SymmetricForged
import Derived.Test.YtgfpflcoknpbdaaDoorP3SymmetricForged
import Derived.Test.YtgfpflcoknpbdaaDoorP5SymmetricForged
set_option maxRecDepth 20000
set_option maxHeartbeats 64000000
namespace Go.Proofs.YtgfpflcoknpbdaaDoor
open Go.RowKit
theorem idxTg12 (b i : Nat) (hi : i < 16) (w : World) {o : Oper} {a : Act} (x y : Operand) (ho : o.op = .indexAddr 42 x y) (hx : a.eval x = .pointer (some ⟨b, 0, none⟩)) (hy : a.eval y = .int .i64 (i : Int)) :
    (execOp a.eval o).run Tryd.prog w = .ok (.value (.pointer (some ⟨b, i, none⟩))) w := by
  have h := idxArr (P := Tryd.prog) 42 5 16 .i64 b 0 i x y Tryd.underlying42 (fun _ => by kernel_rfl) hi ho hx hy w
  rw [Nat.zero_add] at h
  exact h
theorem law_SymmetricForged (pcs : Sym → List Value) (hp : SymOK pcs) (kp : Option Addr) (kc : Nat) (kb : List Int) (hkm : kb.length ≤ 140737488351232) (hkc : kb.length ≤ kc) (hkn : kp = none → kc = 0) (hkb : Byts kb) (tp : Option Addr) (tc : Nat) (tb : List Int) (htm : tb.length ≤ 140737488351232) (htc : tb.length ≤ tc) (htn : tp = none → tc = 0) (htb : Byts tb) (z : Nat → Int) (hz : In 256 16 z) (w : World) (hg : SGlob w) (hks : Src w kp kb.length (bl kb)) (hts : Src w tp tb.length (bl tb)) :
    Calls Tryd.prog 4 #[.slice kp kb.length kc, .slice tp tb.length tc, .agg (row .u8 16 z).toArray] w fun e w' => e = .returned (.bool true) ∧ Below w.heap.size w w' := by
  have hw1 : SymW (skey snew kb) := skey_w snew_w _
  have hsl : (sout (skey snew kb) tb).length = tb.length + 16 := by rw [sout_length]; rfl
  have hsb : Byts (sout (skey snew kb) tb) := sout_byts htb
  have M := Mm.init w
  have fold : (.agg #[.int .u8 (z 0), .int .u8 (z 1), .int .u8 (z 2), .int .u8 (z 3), .int .u8 (z 4), .int .u8 (z 5), .int .u8 (z 6), .int .u8 (z 7), .int .u8 (z 8), .int .u8 (z 9), .int .u8 (z 10), .int .u8 (z 11), .int .u8 (z 12), .int .u8 (z 13), .int .u8 (z 14), .int .u8 (z 15)] : Value) = .agg (row .u8 16 z).toArray := rfl
  rw [← fold]
  go_enter Tryd.func4, Tryd.ntmps4
  go_upto_region 0 with fail
  refine wp_region_list ?_
  refine actL (w' := w.alloc (.cells #[.int .u8 (z 0), .int .u8 (z 1), .int .u8 (z 2), .int .u8 (z 3), .int .u8 (z 4), .int .u8 (z 5), .int .u8 (z 6), .int .u8 (z 7), .int .u8 (z 8), .int .u8 (z 9), .int .u8 (z 10), .int .u8 (z 11), .int .u8 (z 12), .int .u8 (z 13), .int .u8 (z 14), .int .u8 (z 15)] 42)) (.pointer (some ⟨w.heap.size, 0, none⟩)) rfl (by kernel_rfl) ?_
  simp only [aP, lI, l0, lS]
  have hB_B1 : w.heap.size ≤ w.heap.size := M.below.size
  replace M := M.box #[.int .u8 (z 0), .int .u8 (z 1), .int .u8 (z 2), .int .u8 (z 3), .int .u8 (z 4), .int .u8 (z 5), .int .u8 (z 6), .int .u8 (z 7), .int .u8 (z 8), .int .u8 (z 9), .int .u8 (z 10), .int .u8 (z 11), .int .u8 (z 12), .int .u8 (z 13), .int .u8 (z 14), .int .u8 (z 15)] 42 w.heap.size rfl
  generalize w.alloc (.cells #[.int .u8 (z 0), .int .u8 (z 1), .int .u8 (z 2), .int .u8 (z 3), .int .u8 (z 4), .int .u8 (z 5), .int .u8 (z 6), .int .u8 (z 7), .int .u8 (z 8), .int .u8 (z 9), .int .u8 (z 10), .int .u8 (z 11), .int .u8 (z 12), .int .u8 (z 13), .int .u8 (z 14), .int .u8 (z 15)] 42) = w1 at M  ⊢
  generalize eB : w.heap.size = B1 at M hB_B1  ⊢
  have hE_B1 : w.heap.size ≤ B1 := Nat.le_of_eq eB
  have hF_B1 : B1 ≤ w.heap.size := Nat.le_of_eq eB.symm
  clear eB
  replace M : Mm w ([(B1, [.int .u8 (z 0), .int .u8 (z 1), .int .u8 (z 2), .int .u8 (z 3), .int .u8 (z 4), .int .u8 (z 5), .int .u8 (z 6), .int .u8 (z 7), .int .u8 (z 8), .int .u8 (z 9), .int .u8 (z 10), .int .u8 (z 11), .int .u8 (z 12), .int .u8 (z 13), .int .u8 (z 14), .int .u8 (z 15)])]) w1 := M
  refine readL (.bool false) rfl (by kernel_rfl) ?_
  simp only [aP, lI, l0, lS]
  first | show Exit.then _ _ _ _ _ | show Exit.inBlock _ _ _ _ _
  go_upto_region 1 with fail
  refine wp_region_list ?_
  have hC : Calls Tryd.prog 5 #[] w1 (fun e w' => e = .returned (.bool true) ∧ Below w1.heap.size w1 w') := shown12_any pcs hp _ (hg.mm M)
  refine callL rfl (fun _ => by kernel_rfl) (hC) ?_
  rintro e w2 ⟨rfl, l⟩
  replace M := M.call l
  refine ⟨_, rfl, ?_⟩
  clear l hC
  simp only [aP, lI, l0, lS]
  refine readL (.bool true) rfl (by kernel_rfl) ?_
  simp only [aP, lI, l0, lS]
  first | show Exit.then _ _ _ _ _ | show Exit.inBlock _ _ _ _ _
  go_upto_region 2 with fail
  refine wp_region_list ?_
  refine callL rfl (fun _ => by kernel_rfl) (hp.new w _ _ hg M) ?_
  rintro e w3 ⟨B3, rfl, hnew_B3, M', l⟩
  clear M
  have M := M'
  clear M'
  clear l
  refine ⟨_, rfl, ?_⟩
  simp only [aP, lI, l0, lS]
  refine readL (.pointer (some ⟨B3, 0, none⟩)) rfl (by kernel_rfl) ?_
  simp only [aP, lI, l0, lS]
  first | show Exit.then _ _ _ _ _ | show Exit.inBlock _ _ _ _ _
  go_upto_region 3 with fail
  refine wp_region_list ?_
  refine callL rfl (fun _ => by kernel_rfl) (hp.new w _ _ hg M) ?_
  rintro e w4 ⟨B4, rfl, hnew_B4, M', l⟩
  clear M
  have M := M'
  clear M'
  clear l
  refine ⟨_, rfl, ?_⟩
  simp only [aP, lI, l0, lS]
  refine readL (.pointer (some ⟨B4, 0, none⟩)) rfl (by kernel_rfl) ?_
  simp only [aP, lI, l0, lS]
  first | show Exit.then _ _ _ _ _ | show Exit.inBlock _ _ _ _ _
  go_upto_region 4 with fail
  refine wp_region_list ?_
  refine readL (.bool true) rfl (by kernel_rfl) ?_
  simp only [aP, lI, l0, lS]
  refine readL (.bool false) rfl (by kernel_rfl) ?_
  simp only [aP, lI, l0, lS]
  refine readL (.bool false) rfl (by kernel_rfl) ?_
  simp only [aP, lI, l0, lS]
  refine readL (.pointer (some ⟨B3, 0, none⟩)) rfl (by kernel_rfl) ?_
  simp only [aP, lI, l0, lS]
  refine readL (.bool false) rfl (by kernel_rfl) ?_
  simp only [aP, lI, l0, lS]
  refine readL (.bool false) rfl (by kernel_rfl) ?_
  simp only [aP, lI, l0, lS]
  refine readL (.bool false) rfl (by kernel_rfl) ?_
  simp only [aP, lI, l0, lS]
  refine readL (.pointer (some ⟨B4, 0, none⟩)) rfl (by kernel_rfl) ?_
  simp only [aP, lI, l0, lS]
  refine readL (.bool false) rfl (by kernel_rfl) ?_
  simp only [aP, lI, l0, lS]
  refine readL (.bool false) rfl (by kernel_rfl) ?_
  simp only [aP, lI, l0, lS]
  first | show Exit.then _ _ _ _ _ | show Exit.inBlock _ _ _ _ _
  have hlo_B3 : w.heap.size ≤ B3 := (M.rows _ (mT _ mS)).2.1
  have hlo_B4 : w.heap.size ≤ B4 := (M.rows _ mS).2.1
  go_upto_region 6 with fail
  refine wp_region_list ?_
  refine readL (.pointer (some ⟨B3, 0, none⟩)) rfl (by kernel_rfl) ?_
  simp only [aP, lI, l0, lS]
  refine readL (.slice kp kb.length kc) rfl (by kernel_rfl) ?_
  simp only [aP, lI, l0, lS]
  replace M := M.swap
  refine callL rfl (fun _ => by kernel_rfl) (hp.key w _ B3 _ snew hg snew_w kp kc kb (Nat.le_trans hkm (by decide)) hkc hkn hkb M ((SrcA.of_old hks (X := [B3]) (fun b hb => by obtain rfl := List.mem_singleton.1 hb; assumption)).off (Off.of_below M.below))) ?_
  rintro e w5 ⟨rfl, M', o1⟩
  clear M
  have M := M'
  clear M'
  clear o1
  refine ⟨_, rfl, ?_⟩
  simp only [aP, lI, l0, lS]
  first | show Exit.then _ _ _ _ _ | show Exit.inBlock _ _ _ _ _
  go_upto_region 7 with fail
  refine wp_region_list ?_
  refine readL (.pointer (some ⟨B4, 0, none⟩)) rfl (by kernel_rfl) ?_
  simp only [aP, lI, l0, lS]
  refine readL (.slice kp kb.length kc) rfl (by kernel_rfl) ?_
  simp only [aP, lI, l0, lS]
  replace M := M.swap
  refine callL rfl (fun _ => by kernel_rfl) (hp.key w _ B4 _ snew hg snew_w kp kc kb (Nat.le_trans hkm (by decide)) hkc hkn hkb M ((SrcA.of_old hks (X := [B4]) (fun b hb => by obtain rfl := List.mem_singleton.1 hb; assumption)).off (Off.of_below M.below))) ?_
  rintro e w6 ⟨rfl, M', o1⟩
  clear M
  have M := M'
  clear M'
  clear o1
  refine ⟨_, rfl, ?_⟩
  simp only [aP, lI, l0, lS]
  first | show Exit.then _ _ _ _ _ | show Exit.inBlock _ _ _ _ _
  go_upto_region 8 with fail
  refine wp_region_list ?_
  refine readL (.pointer (some ⟨B3, 0, none⟩)) rfl (by kernel_rfl) ?_
  simp only [aP, lI, l0, lS]
  refine readL (.slice tp tb.length tc) rfl (by kernel_rfl) ?_
  simp only [aP, lI, l0, lS]
  replace M := M.swap
  have hlt_O_7_B3 := M.lt mS
  have hlt_O_7_B4 := M.lt (mT _ mS)
  refine callL rfl (fun _ => by kernel_rfl) (hp.sel w _ B3 _ (skey snew kb) hg hw1 (show (0 : Nat) < 4611686018427387904 by decide) tp tc tb (Nat.le_trans htm (by decide)) htc htn htb M ((SrcA.of_old hts (X := [B3]) (fun b hb => by obtain rfl := List.mem_singleton.1 hb; assumption)).off (Off.of_below M.below))) ?_
  rintro e w7 ⟨⟨v_7, rfl, O_7⟩, M', o1⟩
  clear M
  have M := M'
  clear M'
  have hsz_7 := o1.size
  clear o1
  refine ⟨_, rfl, ?_⟩
  obtain ⟨p7, c7, rfl, hcc_7, hnn_7, _, _⟩ := id O_7
  replace O_7 : NewF w7 w6.heap.size (sout (skey snew kb) tb).length (bl (sout (skey snew kb) tb)) (.slice p7 (sout (skey snew kb) tb).length c7) := O_7
  simp only [aP, lI, l0, lS]
  refine readL (.slice p7 ((sout (skey snew kb) tb).length) c7) rfl (by kernel_rfl) ?_
  simp only [aP, lI, l0, lS]
  first | show Exit.then _ _ _ _ _ | show Exit.inBlock _ _ _ _ _
  go_upto_region 9 with fail
  refine wp_region_list ?_
  refine readL (.slice p7 ((sout (skey snew kb) tb).length) c7) rfl (by kernel_rfl) ?_
  simp only [aP, lI, l0, lS]
  refine readL (.int .i64 (((sout (skey snew kb) tb).length : Nat) : Int)) rfl (lenS _ 27 5 p7 ((sout (skey snew kb) tb).length) c7 rfl Tryd.underlying27 rfl _) ?_
  simp only [aP, lI, l0, lS]
  refine readL (.slice tp tb.length tc) rfl (by kernel_rfl) ?_
  simp only [aP, lI, l0, lS]
  refine readL (.int .i64 ((tb.length : Nat) : Int)) rfl (lenS _ 27 5 tp tb.length tc rfl Tryd.underlying27 rfl _) ?_
  simp only [aP, lI, l0, lS]
  refine readL (.int .i64 (((tb.length : Nat) : Int) + 16)) rfl (addI .i64 _ _ _ _ _ _ _ rfl rfl rfl (by rw [IntKind.wrap_i64]; omega) _) ?_
  simp only [aP, lI, l0, lS]
  refine readL (.bool false) rfl (neqI .i64 _ _ _ _ _ _ rfl rfl rfl false (by rw [hsl]; simp) _) ?_
  simp only [aP, lI, l0, lS]
  first | show Exit.then _ _ _ _ _ | show Exit.inBlock _ _ _ _ _
  have hz_B3 := M.lt mS
  have hz_B4 := M.lt (mT _ mS)
  have hz_B1 := M.lt (mT _ (mT _ mS))
  have hax := NewF.at O_7
  have hw0 := M.below.size
  go_upto_region 11 with fail
  refine wp_region_list ?_
  refine actL (w' := w7.alloc (.cells #[] 5)) (.slice (some ⟨w7.heap.size, 0, none⟩) 0 0) rfl (by kernel_rfl) ?_
  simp only [aP, lI, l0, lS]
  have O_1 : OwnL (w7.alloc (.cells #[] 5)) w7.heap.size [] (.slice (some ⟨w7.heap.size, 0, none⟩) 0 0) := Own.lit w7 w7.heap.size 5 .u8 0 (bl []) (Nat.le_refl _) (by unfold maxLen; omega)
  have hlb := (Below.refl w7.heap.size w7).alloc (Nat.le_refl _) (.cells #[] 5)
  replace M := M.call hlb
  have N := (Mm.init w7).call hlb
  have O_0 := O_7
  replace O_7 := NewF.below O_7 hlb
  have hwa := hlb.size
  clear hlb
  generalize w7.alloc (.cells #[] 5) = w9 at M N O_1 O_7 hwa ⊢
  generalize (some ⟨w7.heap.size, 0, none⟩ : Option Addr) = p1 at O_1 ⊢
  refine readL (.slice p7 ((sout (skey snew kb) tb).length) c7) rfl (by kernel_rfl) ?_
  simp only [aP, lI, l0, lS]
  obtain ⟨v, w10, hr, O_3, hgr, _⟩ := run_append_Own (P := Tryd.prog) (ty := 27) Tryd.underlying27 one8 O_1 p7 (sout (skey snew kb) tb).length c7 (bl (sout (skey snew kb) tb)) (NewF.src O_7) hnn_7 (by rw [List.length_nil, hsl]; unfold maxLen; omega) (by rw [List.length_nil, hsl]; omega) hwa
  replace M := M.grown hgr w7.heap.size (fun p hp => by simp only [List.mem_cons, List.not_mem_nil, or_false] at hp; rcases hp with rfl | rfl | rfl <;> assumption) hw0 hwa (fun b hb => (World.ownsRow.lt O_1 b hb).1)
  replace N := N.grown hgr w7.heap.size (fun p hp => by cases hp) (Nat.le_refl _) hwa (fun b hb => (World.ownsRow.lt O_1 b hb).1)
  replace O_3 : OwnL w10 w7.heap.size (sout (skey snew kb) tb) v := OwnL.app (a := []) O_3
  refine actL v rfl (appendOp _ _ 27 _ _ _ rfl rfl rfl hr) ?_
  simp only [aP, lI, l0, lS]
  have hNb := N.below
  clear N hr hgr O_1
  obtain ⟨g, cg, rfl, hg1, hg2, Hg⟩ := Own.has O_3 (by rw [hsl]; omega)
  have hgc := Own.le O_3
  rw [hsl] at hgc
  refine readL (.slice (some ⟨g, 0, none⟩) ((sout (skey snew kb) tb).length) cg) rfl (by kernel_rfl) ?_
  simp only [aP, lI, l0, lS]
  first | show Exit.then _ _ _ _ _ | show Exit.inBlock _ _ _ _ _
  have hS1 : Src w10 p7 (sout (skey snew kb) tb).length (bl (sout (skey snew kb) tb)) := (NewF.src O_0).below hNb (Nat.le_refl _)
  have A_7 : SrcA [g, B3, B4] w10 p7 (sout (skey snew kb) tb).length (bl (sout (skey snew kb) tb)) := ⟨hS1, fun ad e _ hm => by
    have h1 := hax ad e
    simp only [List.mem_cons, List.not_mem_nil, or_false] at hm
    have h2 := hlt_O_7_B3
    have h3 := hlt_O_7_B4
    omega⟩
  clear hS1 hax O_7 O_0
  replace M := M.ofHas Hg (by omega) hg2 (fun p hp => by simp only [List.mem_cons, List.not_mem_nil, or_false] at hp; rcases hp with rfl | rfl | rfl <;> (simp only; omega))
  rw [row_map] at M
  clear O_3 Hg hNb
  go_upto_region 12 with fail
  refine wp_region_list ?_
  refine readL (.int .i64 0) rfl (by kernel_rfl) ?_
  simp only [aP, lI, l0, lS]
  first | show Exit.then _ _ _ _ _ | show Exit.inBlock _ _ _ _ _
  have HI := show Hid _ from (And.intro M A_7)
  clear M A_7
  go_wp2
  go_loopw [12] (fun i w' => ∃ (q : Nat) (f : List Int), q ≤ 16 ∧ i = .int .i64 (q : Int) ∧ f.length = tb.length + 16 ∧ Byts f ∧ (∀ j, j < tb.length → bl f j = bl (sout (skey snew kb) tb) j) ∧ (∀ j, j < q → bl f (tb.length + j) = bits .xor .u8 (bl (sout (skey snew kb) tb) (tb.length + j)) (z j)) ∧ (∀ j, q ≤ j → bl f (tb.length + j) = bl (sout (skey snew kb) tb) (tb.length + j)) ∧ Mm w [(g, f.map (Value.int .u8)), (B3, pcs (sseal (skey snew kb) tb)), (B4, pcs (skey snew kb)), (B1, [.int .u8 (z 0), .int .u8 (z 1), .int .u8 (z 2), .int .u8 (z 3), .int .u8 (z 4), .int .u8 (z 5), .int .u8 (z 6), .int .u8 (z 7), .int .u8 (z 8), .int .u8 (z 9), .int .u8 (z 10), .int .u8 (z 11), .int .u8 (z 12), .int .u8 (z 13), .int .u8 (z 14), .int .u8 (z 15)])] w' ∧ SrcA [g, B3, B4] w' p7 (sout (skey snew kb) tb).length (bl (sout (skey snew kb) tb))) (fun i _ => 16 - (intOf i).toNat)
  case atStart => exact ⟨0, (sout (skey snew kb) tb), by omega, rfl, hsl, hsb, fun _ _ => rfl, fun j hj => by omega, fun _ _ => rfl, HI.out⟩
  case round =>
    clear HI
    obtain ⟨q, f, hq, rfl, hfl, hfb, hflo, hfhi, hfre, M, A_7⟩ := hrel
    by_cases hlt : q < 16
    · have hlq : tb.length + q < (sout (skey snew kb) tb).length := by rw [hsl]; omega
      go_upto_region 13 with fail
      refine wp_region_list ?_
      refine readL (.int .i64 (q : Int)) rfl (by kernel_rfl) ?_
      simp only [aP, lI, l0, lS]
      refine readL (.bool true) rfl (lssI .i64 _ _ _ _ _ _ rfl rfl rfl true (decide_eq_true (by omega)) _) ?_
      simp only [aP, lI, l0, lS]
      first | show Exit.then _ _ _ _ _ | show Exit.inBlock _ _ _ _ _
      go_upto_region 15 with fail
      replace A_7 := A_7.off (Off.of_below (Below.refl wr.heap.size wr).drew)
      refine wp_region_C (S := fun w' => Mm w [(g, f.map (Value.int .u8)), (B3, pcs (sseal (skey snew kb) tb)), (B4, pcs (skey snew kb)), (B1, [.int .u8 (z 0), .int .u8 (z 1), .int .u8 (z 2), .int .u8 (z 3), .int .u8 (z 4), .int .u8 (z 5), .int .u8 (z 6), .int .u8 (z 7), .int .u8 (z 8), .int .u8 (z 9), .int .u8 (z 10), .int .u8 (z 11), .int .u8 (z 12), .int .u8 (z 13), .int .u8 (z 14), .int .u8 (z 15)])] w') 17 (by kernel_rfl) M.drew ?_
      clear M
      intro M
      generalize wr.drew = w3 at M A_7 ⊢
      refine pureCg (i := 0) (some 52) rfl (.slice (some ⟨g, 0, none⟩) (sout (skey snew kb) tb).length cg) rfl (by decide) rfl (fun _ => by kernel_rfl) M ?_
      simp only [aP, lI, l0, lS]
      refine pureCg (i := 1) (some 53) rfl (.slice tp tb.length tc) rfl (by decide) rfl (fun _ => by kernel_rfl) M ?_
      simp only [aP, lI, l0, lS]
      refine pureCg (i := 2) (some 54) rfl (.int .i64 (tb.length : Int)) rfl (by decide) rfl (fun w => lenS _ 27 5 tp tb.length tc rfl Tryd.underlying27 rfl w) M ?_
      simp only [aP, lI, l0, lS]
      refine pureCg (i := 3) (some 55) rfl (.int .i64 (q : Int)) rfl (by decide) rfl (fun _ => by kernel_rfl) M ?_
      simp only [aP, lI, l0, lS]
      refine pureCg (i := 4) (some 56) rfl (.int .i64 ((tb.length + q : Nat) : Int)) rfl (by decide) rfl (fun w => addI .i64 _ _ _ _ _ _ _ rfl rfl rfl (by rw [IntKind.wrap_i64]; omega) w) M ?_
      simp only [aP, lI, l0, lS]
      refine pureCg (i := 5) (some 57) rfl (.slice (some ⟨g, 0, none⟩) (sout (skey snew kb) tb).length cg) rfl (by decide) rfl (fun _ => by kernel_rfl) M ?_
      simp only [aP, lI, l0, lS]
      refine pureCg (i := 6) (some 58) rfl (.slice tp tb.length tc) rfl (by decide) rfl (fun _ => by kernel_rfl) M ?_
      simp only [aP, lI, l0, lS]
      refine pureCg (i := 7) (some 59) rfl (.int .i64 (tb.length : Int)) rfl (by decide) rfl (fun w => lenS _ 27 5 tp tb.length tc rfl Tryd.underlying27 rfl w) M ?_
      simp only [aP, lI, l0, lS]
      refine pureCg (i := 8) (some 60) rfl (.int .i64 (q : Int)) rfl (by decide) rfl (fun _ => by kernel_rfl) M ?_
      simp only [aP, lI, l0, lS]
      refine pureCg (i := 9) (some 61) rfl (.int .i64 ((tb.length + q : Nat) : Int)) rfl (by decide) rfl (fun w => addI .i64 _ _ _ _ _ _ _ rfl rfl rfl (by rw [IntKind.wrap_i64]; omega) w) M ?_
      simp only [aP, lI, l0, lS]
      refine pureCg (i := 10) (some 62) rfl (.pointer (some ⟨g, tb.length + q, none⟩)) rfl (by decide) rfl (fun w' => idxO g (sout (skey snew kb) tb).length cg (tb.length + q) hlq w' _ _ rfl rfl rfl) M ?_
      simp only [aP, lI, l0, lS]
      refine cellC (i := 11) (some 63) rfl .u8 (.int .u8 (bl f (tb.length + q))) g (tb.length + q) 5 _ rfl rfl (by kernel_rfl) rfl rfl rfl (by kernel_rfl) (by kernel_rfl) (by kernel_rfl) (by kernel_rfl) (fun _ _ _ h => h) Tryd.underlying5 M (fun _ h => h.get mS _ _ (map_get8 f (tb.length + q) (by omega))) ?_
      simp only [aP, lI, l0, lS]
      refine pureCg (i := 12) (some 64) rfl (.int .i64 (q : Int)) rfl (by decide) rfl (fun _ => by kernel_rfl) M ?_
      simp only [aP, lI, l0, lS]
      refine pureCg (i := 13) (some 65) rfl (.pointer (some ⟨B1, q, none⟩)) rfl (by decide) rfl (fun w' => idxTg12 B1 q hlt w' _ _ rfl rfl rfl) M ?_
      simp only [aP, lI, l0, lS]
      refine cellC (i := 14) (some 66) rfl .u8 (.int .u8 (z q)) B1 (q) 5 _ rfl rfl (by kernel_rfl) rfl rfl rfl (by kernel_rfl) (by kernel_rfl) (by kernel_rfl) (by kernel_rfl) (fun _ _ _ h => h) Tryd.underlying5 M (fun _ h => h.get (mT _ (mT _ (mT _ mS))) q _ (row_get .u8 16 z q hlt)) ?_
      simp only [aP, lI, l0, lS]
      refine pureCg (i := 15) (some 67) rfl (.int .u8 (bits .xor .u8 (bl f (tb.length + q)) (z q))) rfl (by decide) rfl (fun w => xorI .u8 _ _ _ _ _ _ _ rfl rfl rfl rfl w) M ?_
      simp only [aP, lI, l0, lS]
      refine pureCg (i := 16) (some 68) rfl (.pointer (some ⟨g, tb.length + q, none⟩)) rfl (by decide) rfl (fun w' => idxO g (sout (skey snew kb) tb).length cg (tb.length + q) hlq w' _ _ rfl rfl rfl) M ?_
      simp only [aP, lI, l0, lS]
      have hcell := M.get mS (tb.length + q) _ (map_get8 f (tb.length + q) (by omega))
      refine storeC (S2 := fun _ => True) none rfl .u8 (bits .xor .u8 (bl f (tb.length + q)) (z q)) g (tb.length + q) 5 _ _ (by kernel_rfl) rfl rfl rfl rfl rfl (by rw [hcell]; rfl) (M.free mS (tb.length + q) (by rw [List.length_map]; omega)) (by kernel_rfl) (by kernel_rfl) ?_
      simp only [Act.put]
      refine wpAnyH_done (by kernel_rfl) ?_ _
      clear hcell
      replace M := M.set (tb.length + q) (by rw [List.length_map]; omega) (.int .u8 (bits .xor .u8 (bl f (tb.length + q)) (z q)))
      rw [← List.map_set] at M
      replace A_7 := A_7.off ((Off.refl [g, B3, B4] _).set (b := g) (by simp) (tb.length + q) (.int .u8 (bits .xor .u8 (bl f (tb.length + q)) (z q))))
      have hXi := u8_xor_in (bl f (tb.length + q)) (z q) (hfb.bl (tb.length + q) (by omega)) (hz q hlt)
      have hjf : tb.length + q < f.length := by omega
      have HS := show Hid _ from (show (f.set (tb.length + q) (bits .xor .u8 (bl f (tb.length + q)) (z q))).length = tb.length + 16 ∧ Byts (f.set (tb.length + q) (bits .xor .u8 (bl f (tb.length + q)) (z q))) ∧ (∀ j, j < tb.length → bl (f.set (tb.length + q) (bits .xor .u8 (bl f (tb.length + q)) (z q))) j = bl (sout (skey snew kb) tb) j) ∧ (∀ j, j < (q + 1) → bl (f.set (tb.length + q) (bits .xor .u8 (bl f (tb.length + q)) (z q))) (tb.length + j) = bits .xor .u8 (bl (sout (skey snew kb) tb) (tb.length + j)) (z j)) ∧ (∀ j, (q + 1) ≤ j → bl (f.set (tb.length + q) (bits .xor .u8 (bl f (tb.length + q)) (z q))) (tb.length + j) = bl (sout (skey snew kb) tb) (tb.length + j)) ∧ Mm w [(g, (f.set (tb.length + q) (bits .xor .u8 (bl f (tb.length + q)) (z q))).map (Value.int .u8)), (B3, pcs (sseal (skey snew kb) tb)), (B4, pcs (skey snew kb)), (B1, [.int .u8 (z 0), .int .u8 (z 1), .int .u8 (z 2), .int .u8 (z 3), .int .u8 (z 4), .int .u8 (z 5), .int .u8 (z 6), .int .u8 (z 7), .int .u8 (z 8), .int .u8 (z 9), .int .u8 (z 10), .int .u8 (z 11), .int .u8 (z 12), .int .u8 (z 13), .int .u8 (z 14), .int .u8 (z 15)])] (w3.setCell ⟨g, tb.length + q, none⟩ (.int .u8 (bits .xor .u8 (bl f (tb.length + q)) (z q)))) ∧ SrcA [g, B3, B4] (w3.setCell ⟨g, tb.length + q, none⟩ (.int .u8 (bits .xor .u8 (bl f (tb.length + q)) (z q)))) p7 (sout (skey snew kb) tb).length (bl (sout (skey snew kb) tb)) from ⟨by rw [List.length_set]; exact hfl, hfb.set _ hXi, fun j hj => by rw [bl_set _ _ _ _ hjf, if_neg (by omega)]; exact hflo j hj, fun j hj => by
        rw [bl_set _ _ _ _ hjf]
        by_cases e : j = q
        · subst e; rw [if_pos rfl, hfre j (Nat.le_refl _)]
        · rw [if_neg (by omega)]; exact hfhi j (by omega), fun j hj => by rw [bl_set _ _ _ _ hjf, if_neg (by omega)]; exact hfre j (by omega), M, A_7⟩)
      clear M A_7 hfb hflo hfhi hfre hXi hjf
      generalize w3.setCell ⟨g, tb.length + q, none⟩ (.int .u8 (bits .xor .u8 (bl f (tb.length + q)) (z q))) = w4 at HS ⊢
      generalize f.set (tb.length + q) (bits .xor .u8 (bl f (tb.length + q)) (z q)) = f' at HS
      go_wp2
      go_roundw
      case rel => first | exact ⟨q + 1, f', by omega, by go_num, HS.out⟩ | ((repeat apply Exists.intro); refine ⟨⟨q + 1, f', by omega, by go_num, HS.out⟩, rfl⟩)
      case measure => simp [intOf]; omega
    · obtain rfl : q = 16 := by omega
      go_upto_region 13 with fail
      refine wp_region_list ?_
      refine readL (.int .i64 ((16 : Nat) : Int)) rfl (by kernel_rfl) ?_
      simp only [aP, lI, l0, lS]
      refine readL (.bool false) rfl (lssI .i64 _ _ _ _ _ _ rfl rfl rfl false (by decide) _) ?_
      simp only [aP, lI, l0, lS]
      first | show Exit.then _ _ _ _ _ | show Exit.inBlock _ _ _ _ _
      by_cases hz0 : val 256 z 16 = val 256 (fun _ => 0) 16
      · clear hfb hflo hfhi hfre
        go_upto_region 16 with fail
        refine wp_region_list ?_
        refine readL (.agg (row .u8 16 z).toArray) rfl (loadN 42 _ ⟨B1, 0, none⟩ (row .u8 16 z) rfl rfl (fun _ => by kernel_rfl) (fun _ => by kernel_rfl) (M.part (mT _ (mT _ (mT _ mS))) 0 _ rfl)) ?_
        simp only [aP, lI, l0, lS]
        refine readL (.agg (row .u8 16 (fun _ => 0)).toArray) rfl (by kernel_rfl) ?_
        simp only [aP, lI, l0, lS]
        refine readL (.bool false) rfl (neqV 16 z (fun _ => 0) 42 5 _ _ _ rfl rfl rfl Tryd.underlying42 Tryd.underlying5 (fun _ => by kernel_rfl) (by kernel_rfl) hz (fun _ _ => ⟨Int.le_refl _, show (0 : Int) < 256 by decide⟩) false (by rw [decide_eq_true hz0]; rfl) _) ?_
        simp only [aP, lI, l0, lS]
        first | show Exit.then _ _ _ _ _ | show Exit.inBlock _ _ _ _ _
        go_upto_region 20 with fail
        refine wp_region_list ?_
        refine readL (.pointer (some ⟨B4, 0, none⟩)) rfl (by kernel_rfl) ?_
        simp only [aP, lI, l0, lS]
        refine readL (.slice p7 ((sout (skey snew kb) tb).length) c7) rfl (by kernel_rfl) ?_
        simp only [aP, lI, l0, lS]
        replace M := M.rot3
        have hlt_O_11_B4 := M.lt mS
        have hlt_O_11_B3 := M.lt (mT _ (mT _ mS))
        refine callL rfl (fun _ => by kernel_rfl) (hp.opn w _ B4 _ (skey snew kb) hg hw1 (show (0 : Nat) < 4611686018427387904 by decide) p7 c7 (sout (skey snew kb) tb) (by rw [hsl]; omega) hcc_7 hnn_7 hsb M (A_7.less (fun b hb => by obtain rfl := List.mem_singleton.1 hb; simp))) ?_
        rintro e w11 ⟨⟨v_11, rfl, O_11⟩, M', o1⟩
        clear M
        have M := M'
        clear M'
        replace A_7 := A_7.off (o1.mono (fun x hx => by obtain rfl := List.mem_singleton.1 hx; simp))
        clear o1
        refine ⟨_, rfl, ?_⟩
        obtain ⟨p11, c11, rfl, hcc_11, hnn_11, _, _⟩ := id O_11
        replace O_11 : NewF w11 wr.heap.size (soT (skey snew kb) (sout (skey snew kb) tb)).length (bl (soT (skey snew kb) (sout (skey snew kb) tb))) (.slice p11 (soT (skey snew kb) (sout (skey snew kb) tb)).length c11) := O_11
        simp only [aP, lI, l0, lS]
        refine readL (.tuple #[.slice p11 ((soT (skey snew kb) (sout (skey snew kb) tb)).length) c11, .int .i64 (soE (skey snew kb) (sout (skey snew kb) tb))]) rfl (by kernel_rfl) ?_
        simp only [aP, lI, l0, lS]
        refine readL (.slice p11 ((soT (skey snew kb) (sout (skey snew kb) tb)).length) c11) rfl (by kernel_rfl) ?_
        simp only [aP, lI, l0, lS]
        refine readL (.int .i64 (soE (skey snew kb) (sout (skey snew kb) tb))) rfl (by kernel_rfl) ?_
        simp only [aP, lI, l0, lS]
        refine readL (.slice p11 ((soT (skey snew kb) (sout (skey snew kb) tb)).length) c11) rfl (by kernel_rfl) ?_
        simp only [aP, lI, l0, lS]
        refine readL (.int .i64 (soE (skey snew kb) (sout (skey snew kb) tb))) rfl (by kernel_rfl) ?_
        simp only [aP, lI, l0, lS]
        first | show Exit.then _ _ _ _ _ | show Exit.inBlock _ _ _ _ _
        rw [sopen_back] at M
        go_upto_region 21 with fail
        refine wp_region_list ?_
        refine readL (.int .i64 (soE (skey snew kb) (sout (skey snew kb) tb))) rfl (by kernel_rfl) ?_
        simp only [aP, lI, l0, lS]
        refine readL (.bool true) rfl (eqlI .i64 _ _ _ _ _ _ rfl rfl rfl true (by rw [soE_back]; rfl) _) ?_
        simp only [aP, lI, l0, lS]
        refine readL (.bool true) rfl (by kernel_rfl) ?_
        simp only [aP, lI, l0, lS]
        refine readL (.slice p11 ((soT (skey snew kb) (sout (skey snew kb) tb)).length) c11) rfl (by kernel_rfl) ?_
        simp only [aP, lI, l0, lS]
        refine readL (.string (txt ((soT (skey snew kb) (sout (skey snew kb) tb)).length) (bl (soT (skey snew kb) (sout (skey snew kb) tb))))) rfl (conv_txt 27 5 9 _ rfl Tryd.underlying27 Tryd.underlying5 Tryd.underlying9 p11 ((soT (skey snew kb) (sout (skey snew kb) tb)).length) c11 (bl (soT (skey snew kb) (sout (skey snew kb) tb))) rfl _ (NewF.src O_11) (fun e => by have h1 := hnn_11 e; have h2 := hcc_11; omega)) ?_
        simp only [aP, lI, l0, lS]
        refine readL (.slice tp tb.length tc) rfl (by kernel_rfl) ?_
        simp only [aP, lI, l0, lS]
        refine readL (.string (txt tb.length (bl tb))) rfl (conv_txt 27 5 9 _ rfl Tryd.underlying27 Tryd.underlying5 Tryd.underlying9 tp tb.length tc (bl tb) rfl _ (hts.below M.below (Nat.le_refl _)) (fun e => by have h1 := htn e; have h2 := htc; omega)) ?_
        simp only [aP, lI, l0, lS]
        refine readL (.bool true) rfl (eqlS _ _ _ _ _ _ rfl rfl rfl (by rw [soT_back _ _ htb]) _) ?_
        simp only [aP, lI, l0, lS]
        refine readL (.bool true) rfl (by kernel_rfl) ?_
        simp only [aP, lI, l0, lS]
        refine readL (.bool true) rfl (by kernel_rfl) ?_
        simp only [aP, lI, l0, lS]
        refine readL (.pointer (some ⟨B3, 0, none⟩)) rfl (by kernel_rfl) ?_
        simp only [aP, lI, l0, lS]
        replace M := M.rot3
        refine callL rfl (fun _ => by kernel_rfl) (hp.hash w _ B3 _ (sseal (skey snew kb) tb) hg M) ?_
        rintro e w12 ⟨rfl, l⟩
        replace M := M.call l
        replace A_7 := A_7.off (Off.of_below l)
        replace O_11 := NewF.below O_11 l
        clear l
        refine ⟨_, rfl, ?_⟩
        simp only [aP, lI, l0, lS]
        refine readL (.pointer (some ⟨B4, 0, none⟩)) rfl (by kernel_rfl) ?_
        simp only [aP, lI, l0, lS]
        replace M := M.swap
        refine callL rfl (fun _ => by kernel_rfl) (hp.hash w _ B4 _ (sseal (skey snew kb) tb) hg M) ?_
        rintro e w13 ⟨rfl, l⟩
        replace M := M.call l
        replace A_7 := A_7.off (Off.of_below l)
        replace O_11 := NewF.below O_11 l
        clear l
        refine ⟨_, rfl, ?_⟩
        simp only [aP, lI, l0, lS]
        refine readL (.bool true) rfl (eqlRow 32 .u8 ((sseal (skey snew kb) tb).h) ((sseal (skey snew kb) tb).h) 36 5 _ _ _ rfl rfl rfl Tryd.underlying36 Tryd.underlying5 (fun _ => by kernel_rfl) (by kernel_rfl) (fun _ _ => rfl) _) ?_
        simp only [aP, lI, l0, lS]
        refine readL (.bool true) rfl (by kernel_rfl) ?_
        simp only [aP, lI, l0, lS]
        refine readL (.bool true) rfl (by kernel_rfl) ?_
        simp only [aP, lI, l0, lS]
        first | show Exit.then _ _ _ _ _ | show Exit.inBlock _ _ _ _ _
        have hBel := M.below
        clear M A_7 O_11
        go_wp2
        go_ret
        exact ⟨rfl, hBel⟩
      · have h70 : soE (skey snew kb) f = 70 := soE_turned (s := (skey snew kb)) rfl tb f hfl z hz (fun h => hz0 (val_congr 256 16 (fun j hj => h j hj))) hflo hfhi hfb
        clear hflo hfhi hfre
        go_upto_region 16 with fail
        refine wp_region_list ?_
        refine readL (.agg (row .u8 16 z).toArray) rfl (loadN 42 _ ⟨B1, 0, none⟩ (row .u8 16 z) rfl rfl (fun _ => by kernel_rfl) (fun _ => by kernel_rfl) (M.part (mT _ (mT _ (mT _ mS))) 0 _ rfl)) ?_
        simp only [aP, lI, l0, lS]
        refine readL (.agg (row .u8 16 (fun _ => 0)).toArray) rfl (by kernel_rfl) ?_
        simp only [aP, lI, l0, lS]
        refine readL (.bool true) rfl (neqV 16 z (fun _ => 0) 42 5 _ _ _ rfl rfl rfl Tryd.underlying42 Tryd.underlying5 (fun _ => by kernel_rfl) (by kernel_rfl) hz (fun _ _ => ⟨Int.le_refl _, show (0 : Int) < 256 by decide⟩) true (by rw [decide_eq_false hz0]; rfl) _) ?_
        simp only [aP, lI, l0, lS]
        first | show Exit.then _ _ _ _ _ | show Exit.inBlock _ _ _ _ _
        have hfl2 : f.length = (sout (skey snew kb) tb).length := by rw [hsl]; exact hfl
        rw [← hfl2]
        go_upto_region 17 with fail
        refine wp_region_list ?_
        refine readL (.pointer (some ⟨B4, 0, none⟩)) rfl (by kernel_rfl) ?_
        simp only [aP, lI, l0, lS]
        refine readL (.slice (some ⟨g, 0, none⟩) f.length cg) rfl (by kernel_rfl) ?_
        simp only [aP, lI, l0, lS]
        replace M := M.rot3
        have hlt_O_14_B4 := M.lt mS
        have hlt_O_14_B3 := M.lt (mT _ (mT _ mS))
        refine callL rfl (fun _ => by kernel_rfl) (hp.opn w _ B4 _ (skey snew kb) hg hw1 (show (0 : Nat) < 4611686018427387904 by decide) (some ⟨g, 0, none⟩) cg f (by omega) (by omega) (fun e => by cases e) hfb M (⟨M.src (mT _ mS) f rfl, fun ad e _ hm => by cases e; have e2 : g = B4 := List.mem_singleton.1 hm; omega⟩ : SrcA [B4] _ _ _ _)) ?_
        rintro e w14 ⟨⟨v_14, rfl, O_14⟩, M', o1⟩
        clear M
        have M := M'
        clear M'
        replace A_7 := A_7.off (o1.mono (fun x hx => by obtain rfl := List.mem_singleton.1 hx; simp))
        clear o1
        refine ⟨_, rfl, ?_⟩
        obtain ⟨p14, c14, rfl, hcc_14, hnn_14, _, _⟩ := id O_14
        replace O_14 : NewF w14 wr.heap.size (soT (skey snew kb) f).length (bl (soT (skey snew kb) f)) (.slice p14 (soT (skey snew kb) f).length c14) := O_14
        simp only [aP, lI, l0, lS]
        refine readL (.tuple #[.slice p14 ((soT (skey snew kb) f).length) c14, .int .i64 (soE (skey snew kb) f)]) rfl (by kernel_rfl) ?_
        simp only [aP, lI, l0, lS]
        refine readL (.slice p14 ((soT (skey snew kb) f).length) c14) rfl (by kernel_rfl) ?_
        simp only [aP, lI, l0, lS]
        refine readL (.int .i64 (soE (skey snew kb) f)) rfl (by kernel_rfl) ?_
        simp only [aP, lI, l0, lS]
        refine readL (.slice p14 ((soT (skey snew kb) f).length) c14) rfl (by kernel_rfl) ?_
        simp only [aP, lI, l0, lS]
        refine readL (.int .i64 (soE (skey snew kb) f)) rfl (by kernel_rfl) ?_
        simp only [aP, lI, l0, lS]
        first | show Exit.then _ _ _ _ _ | show Exit.inBlock _ _ _ _ _
        rw [sopen_turned (s := (skey snew kb)) (f := f) (by rw [h70]; decide)] at M
        go_upto_region 18 with fail
        refine wp_region_list ?_
        refine readL (.int .i64 (soE (skey snew kb) f)) rfl (by kernel_rfl) ?_
        simp only [aP, lI, l0, lS]
        refine readL (.bool false) rfl (neqI .i64 _ _ _ _ _ _ rfl rfl rfl false (by rw [h70]; rfl) _) ?_
        simp only [aP, lI, l0, lS]
        first | show Exit.then _ _ _ _ _ | show Exit.inBlock _ _ _ _ _
        rw [hfl2]
        go_upto_region 20 with fail
        refine wp_region_list ?_
        refine readL (.pointer (some ⟨B4, 0, none⟩)) rfl (by kernel_rfl) ?_
        simp only [aP, lI, l0, lS]
        refine readL (.slice p7 ((sout (skey snew kb) tb).length) c7) rfl (by kernel_rfl) ?_
        simp only [aP, lI, l0, lS]
        have hlt_O_15_B4 := M.lt mS
        have hlt_O_15_B3 := M.lt (mT _ (mT _ mS))
        refine callL rfl (fun _ => by kernel_rfl) (hp.opn w _ B4 _ (skey snew kb) hg hw1 (show (0 : Nat) < 4611686018427387904 by decide) p7 c7 (sout (skey snew kb) tb) (by rw [hsl]; omega) hcc_7 hnn_7 hsb M (A_7.less (fun b hb => by obtain rfl := List.mem_singleton.1 hb; simp))) ?_
        rintro e w15 ⟨⟨v_15, rfl, O_15⟩, M', o1⟩
        clear M
        have M := M'
        clear M'
        replace A_7 := A_7.off (o1.mono (fun x hx => by obtain rfl := List.mem_singleton.1 hx; simp))
        replace O_14 := NewF.off O_14 o1 (fun b hb => by obtain rfl := List.mem_singleton.1 hb; exact hlt_O_14_B4)
        clear o1
        refine ⟨_, rfl, ?_⟩
        obtain ⟨p15, c15, rfl, hcc_15, hnn_15, _, _⟩ := id O_15
        replace O_15 : NewF w15 w14.heap.size (soT (skey snew kb) (sout (skey snew kb) tb)).length (bl (soT (skey snew kb) (sout (skey snew kb) tb))) (.slice p15 (soT (skey snew kb) (sout (skey snew kb) tb)).length c15) := O_15
        simp only [aP, lI, l0, lS]
        refine readL (.tuple #[.slice p15 ((soT (skey snew kb) (sout (skey snew kb) tb)).length) c15, .int .i64 (soE (skey snew kb) (sout (skey snew kb) tb))]) rfl (by kernel_rfl) ?_
        simp only [aP, lI, l0, lS]
        refine readL (.slice p15 ((soT (skey snew kb) (sout (skey snew kb) tb)).length) c15) rfl (by kernel_rfl) ?_
        simp only [aP, lI, l0, lS]
        refine readL (.int .i64 (soE (skey snew kb) (sout (skey snew kb) tb))) rfl (by kernel_rfl) ?_
        simp only [aP, lI, l0, lS]
        refine readL (.slice p15 ((soT (skey snew kb) (sout (skey snew kb) tb)).length) c15) rfl (by kernel_rfl) ?_
        simp only [aP, lI, l0, lS]
        refine readL (.int .i64 (soE (skey snew kb) (sout (skey snew kb) tb))) rfl (by kernel_rfl) ?_
        simp only [aP, lI, l0, lS]
        first | show Exit.then _ _ _ _ _ | show Exit.inBlock _ _ _ _ _
        rw [sopen_back] at M
        go_upto_region 21 with fail
        refine wp_region_list ?_
        refine readL (.int .i64 (soE (skey snew kb) (sout (skey snew kb) tb))) rfl (by kernel_rfl) ?_
        simp only [aP, lI, l0, lS]
        refine readL (.bool true) rfl (eqlI .i64 _ _ _ _ _ _ rfl rfl rfl true (by rw [soE_back]; rfl) _) ?_
        simp only [aP, lI, l0, lS]
        refine readL (.bool true) rfl (by kernel_rfl) ?_
        simp only [aP, lI, l0, lS]
        refine readL (.slice p15 ((soT (skey snew kb) (sout (skey snew kb) tb)).length) c15) rfl (by kernel_rfl) ?_
        simp only [aP, lI, l0, lS]
        refine readL (.string (txt ((soT (skey snew kb) (sout (skey snew kb) tb)).length) (bl (soT (skey snew kb) (sout (skey snew kb) tb))))) rfl (conv_txt 27 5 9 _ rfl Tryd.underlying27 Tryd.underlying5 Tryd.underlying9 p15 ((soT (skey snew kb) (sout (skey snew kb) tb)).length) c15 (bl (soT (skey snew kb) (sout (skey snew kb) tb))) rfl _ (NewF.src O_15) (fun e => by have h1 := hnn_15 e; have h2 := hcc_15; omega)) ?_
        simp only [aP, lI, l0, lS]
        refine readL (.slice tp tb.length tc) rfl (by kernel_rfl) ?_
        simp only [aP, lI, l0, lS]
        refine readL (.string (txt tb.length (bl tb))) rfl (conv_txt 27 5 9 _ rfl Tryd.underlying27 Tryd.underlying5 Tryd.underlying9 tp tb.length tc (bl tb) rfl _ (hts.below M.below (Nat.le_refl _)) (fun e => by have h1 := htn e; have h2 := htc; omega)) ?_
        simp only [aP, lI, l0, lS]
        refine readL (.bool true) rfl (eqlS _ _ _ _ _ _ rfl rfl rfl (by rw [soT_back _ _ htb]) _) ?_
        simp only [aP, lI, l0, lS]
        refine readL (.bool true) rfl (by kernel_rfl) ?_
        simp only [aP, lI, l0, lS]
        refine readL (.bool true) rfl (by kernel_rfl) ?_
        simp only [aP, lI, l0, lS]
        refine readL (.pointer (some ⟨B3, 0, none⟩)) rfl (by kernel_rfl) ?_
        simp only [aP, lI, l0, lS]
        replace M := M.rot3
        refine callL rfl (fun _ => by kernel_rfl) (hp.hash w _ B3 _ (sseal (skey snew kb) tb) hg M) ?_
        rintro e w16 ⟨rfl, l⟩
        replace M := M.call l
        replace A_7 := A_7.off (Off.of_below l)
        replace O_14 := NewF.below O_14 l
        replace O_15 := NewF.below O_15 l
        clear l
        refine ⟨_, rfl, ?_⟩
        simp only [aP, lI, l0, lS]
        refine readL (.pointer (some ⟨B4, 0, none⟩)) rfl (by kernel_rfl) ?_
        simp only [aP, lI, l0, lS]
        replace M := M.swap
        refine callL rfl (fun _ => by kernel_rfl) (hp.hash w _ B4 _ (sseal (skey snew kb) tb) hg M) ?_
        rintro e w17 ⟨rfl, l⟩
        replace M := M.call l
        replace A_7 := A_7.off (Off.of_below l)
        replace O_14 := NewF.below O_14 l
        replace O_15 := NewF.below O_15 l
        clear l
        refine ⟨_, rfl, ?_⟩
        simp only [aP, lI, l0, lS]
        refine readL (.bool true) rfl (eqlRow 32 .u8 ((sseal (skey snew kb) tb).h) ((sseal (skey snew kb) tb).h) 36 5 _ _ _ rfl rfl rfl Tryd.underlying36 Tryd.underlying5 (fun _ => by kernel_rfl) (by kernel_rfl) (fun _ _ => rfl) _) ?_
        simp only [aP, lI, l0, lS]
        refine readL (.bool true) rfl (by kernel_rfl) ?_
        simp only [aP, lI, l0, lS]
        refine readL (.bool true) rfl (by kernel_rfl) ?_
        simp only [aP, lI, l0, lS]
        first | show Exit.then _ _ _ _ _ | show Exit.inBlock _ _ _ _ _
        have hBel := M.below
        clear M A_7 O_14 O_15
        go_wp2
        go_ret
        exact ⟨rfl, hBel⟩
theorem eqlNil {P : Program} {o : Oper} {a : Act} (t e t' : TypeId) (x y : Operand) (sp : Option Addr) (n c : Nat) (b : Bool) (ho : o.op = .binOp .eql t x y t') (hx : a.eval x = .slice sp n c) (hy : a.eval y = .slice none 0 0) (hu : P.underlying t = some (.slice e)) (hb : sp.isNone = b) (w : World) :
    (execOp a.eval o).run P w = .ok (.value (.bool b)) w := by
  subst hb
  unfold execOp
  have e1 : (eqGuard .eql t x y (.slice sp n c) (.slice none 0 0)).run P w = .ok () w := rfl
  simp only [ho, hx, hy, Sem.run_bind, e1, Lib.run_eql_slice_nil w t e sp n c 0 0 hu, Sem.run_pure, Result.andThen_ok]
def pk2 {α : Type} (a b : α) : Nat → α
  | 0 => a
  | _ => b
theorem tot2 (a b : Nat) : tot (pk2 a b) 2 = a + b := by show 0 + a + b = _; omega
theorem catIn2 {w : World} (C : Nat) (p1 p2 : Option Addr) (l1 l2 c1 c2 : Nat) (z1 z2 : Nat → Int) (t : TypeId) (hC : C = w.heap.size) (h1 : Src w p1 l1 z1) (h2 : Src w p2 l2 z2) (n1 : p1 = none → c1 = 0) (n2 : p2 = none → c2 = 0) :
    CatIn (w.alloc (.cells #[.slice p1 l1 c1, .slice p2 l2 c2] t)) ⟨C, 0, none⟩ 2 (pk2 p1 p2) (pk2 l1 l2) (pk2 c1 c2) (pk2 z1 z2) := by
  have hb := (Below.refl w.heap.size w).alloc (Nat.le_refl _) (.cells #[.slice p1 l1 c1, .slice p2 l2 c2] t)
  refine ⟨fun j hj => ?_, fun j hj => ?_, fun j hj => ?_⟩
  · rw [Addr.add_mid, World.cell?_alloc_at _ _ _ _ hC]
    match j, hj with
    | 0, _ | 1, _ => rfl
    | _ + 2, h => omega
  · match j, hj with
    | 0, _ => exact h1.below hb (Nat.le_refl _)
    | 1, _ => exact h2.below hb (Nat.le_refl _)
    | _ + 2, h => omega
  · match j, hj with
    | 0, _ => exact n1
    | 1, _ => exact n2
    | _ + 2, h => omega
theorem catz2 (a b : Nat) (z1 z2 : Nat → Int) (j : Nat) : catz (pk2 a b) (pk2 z1 z2) 2 j = app z1 a z2 j := by
  show app (app (fun _ => 0) 0 z1) (0 + a) z2 j = app z1 a z2 j
  unfold app
  rw [Nat.zero_add]
  by_cases h : j < a
  · rw [if_pos h, if_pos h, if_neg (Nat.not_lt_zero j), Nat.sub_zero]
  · rw [if_neg h, if_neg h]
theorem clone_any (sp : Option Addr) (len cap : Nat) (hlen : len ≤ 140737488351248) (hc : len ≤ cap) (hnil : sp = none → cap = 0) (z : Nat → Int) (w : World) (hs : Src w sp len z) :
    Calls Tryd.prog 17 #[.slice sp len cap] w fun e w' => ∃ v, e = .returned v ∧ Own w' w.heap.size 5 .u8 len z v ∧ Below w.heap.size w w' := by
  have hB := Below.refl w.heap.size w
  cases sp with
  | none =>
    obtain rfl : len = 0 := by have := hnil rfl; omega
    obtain rfl := hnil rfl
    go_enter Tryd.func17, Tryd.ntmps17
    go_upto_region 1 with fail
    refine wp_region_list ?_
    refine pureL (.slice none 0 0) rfl (fun _ => by kernel_rfl) ?_
    simp only [aP, lI, l0, lS]
    refine pureL (.bool true) rfl (fun w => eqlNil 27 5 _ _ _ none 0 0 true rfl rfl rfl Tryd.underlying27 rfl w) ?_
    simp only [aP, lI, l0, lS]
    show Exit.then _ _ _ _ _
    go_wp2
    go_ret
    exact ⟨_, rfl, World.ownsRow_nil w _ _ 1, hB⟩
  | some ad =>
    go_enter Tryd.func17, Tryd.ntmps17
    go_upto_region 1 with fail
    refine wp_region_list ?_
    refine pureL (.slice (some ad) len cap) rfl (fun _ => by kernel_rfl) ?_
    simp only [aP, lI, l0, lS]
    refine pureL (.bool false) rfl (fun w => eqlNil 27 5 _ _ _ (some ad) len cap false rfl rfl rfl Tryd.underlying27 rfl w) ?_
    simp only [aP, lI, l0, lS]
    show Exit.then _ _ _ _ _
    go_upto_region 3 with fail
    refine wp_region_list ?_
    refine actL (w' := w.alloc (.cells #[] 5)) (.slice (some ⟨w.heap.size, 0, none⟩) 0 0) rfl (by kernel_rfl) ?_
    simp only [aP, lI, l0, lS]
    refine pureL (.slice (some ad) len cap) rfl (fun _ => by kernel_rfl) ?_
    simp only [aP, lI, l0, lS]
    have hb1 := (Below.refl w.heap.size w).alloc (Nat.le_refl _) (.cells #[] 5)
    obtain ⟨v, w2, hr, ho, hgr, _⟩ := run_append_Own (P := Tryd.prog) (ty := 27) Tryd.underlying27 one8 (Own.lit w w.heap.size 5 .u8 0 (fun _ => 0) (Nat.le_refl _) (by unfold maxLen; omega)) (some ad) (len) (cap) (z) ((hs).below hb1 (Nat.le_refl _)) (fun e => by cases e) (by unfold maxLen; omega) (by omega) hb1.size
    have hb2 := hb1.grown hgr hb1.size (fun b hb => by injection hb with hb; simp only at hb; omega)
    refine actL v rfl (appendOp _ _ 27 _ _ _ rfl rfl rfl hr) ?_
    simp only [aP, lI, l0, lS]
    have hO : Own w2 w.heap.size 5 .u8 (len) (z) v := by
      rw [Nat.zero_add] at ho
      exact ho.congr fun j _ => by unfold app; rw [if_neg (Nat.not_lt_zero j), Nat.sub_zero]
    clear hr ho hgr hb1
    refine pureL v rfl (fun _ => by kernel_rfl) ?_
    simp only [aP, lI, l0, lS]
    show Exit.then _ _ _ _ _
    go_wp2
    go_ret
    exact ⟨_, rfl, hO, hb2⟩
theorem smix_next (s : Sym) (b : List Int) (h : s.has = true) : smix (snext s) b = smix ⟨s.h, s.c, s.k, s.has, s.n + 1⟩ b := by unfold snext; rw [if_pos h]
theorem soT_key {s : Sym} (h : s.has = true) (b : List Int) : soT s b = (List.range (aoL s.k (snz s.n) 32 s.h b.length (bl b))).map (hxor s.k 1 (snz s.n) (bl b)) := by unfold soT; rw [if_pos h]
theorem soE_key {s : Sym} (h : s.has = true) (b : List Int) : soE s b = aoE s.k (snz s.n) 32 s.h b.length (bl b) := by unfold soE; rw [if_pos h]
theorem soT_err {s : Sym} {b : List Int} (h : soE s b ≠ 0) : soT s b = [] := by
  cases hh : s.has with
  | false => exact absurd (by unfold soE; rw [hh]; rfl) h
  | true =>
    rw [soE_key hh] at h
    rw [soT_key hh]
    have : ¬ aok s.k (snz s.n) 32 s.h b.length (bl b) := fun k => h (by
      have h16 := k.1
      unfold aoE
      rw [if_neg (by omega), if_pos k])
    unfold aoL
    rw [if_neg this]
    rfl
def BHashOK : Prop := ∀ (sp : Option Addr) (len cap : Nat), len ≤ 140737488355072 → len ≤ cap → (sp = none → cap = 0) → ∀ z : Nat → Int, In 256 len z → ∀ w : World, BGlob w → Src w sp len z →
    Calls Tryd.prog 14 #[.slice sp len cap] w fun e w' => e = .returned (.agg (row .u8 32 (bhash len z)).toArray) ∧ Below w.heap.size w w'
def BMacOK : Prop := ∀ (kp : Option Addr) (kl kc : Nat), kl ≤ 140737488355072 → kl ≤ kc → (kp = none → kc = 0) → ∀ key : Nat → Int, In 256 kl key → ∀ (sp : Option Addr) (len cap : Nat), len ≤ 140737488354816 → len ≤ cap → (sp = none → cap = 0) → ∀ z : Nat → Int, In 256 len z → ∀ w : World, BGlob w → Src w kp kl key → Src w sp len z →
    Calls Tryd.prog 31 #[.slice kp kl kc, .slice sp len cap] w fun e w' => e = .returned (.agg (row .u8 32 (bmac kl key len z)).toArray) ∧ Below w.heap.size w w'
end Go.Proofs.YtgfpflcoknpbdaaDoor
