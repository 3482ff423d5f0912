/- Texts of Yf Yh, joined. -/
import Derived.Test.YtgfpflcoknpbdaaDoorP1SymmetricForged
import Derived.Test.YtgfpflcoknpbdaaDoorP8SymmetricForged
import Derived.Test.YtgfpflcoknpbdaaDoorP6SymmetricForged
set_option maxRecDepth 20000
set_option maxHeartbeats 64000000
namespace Go.Proofs.YtgfpflcoknpbdaaDoor
open Go.RowKit
theorem sseal_bare (b : List Int) : sseal snew b = smix snew b := rfl
theorem soE_short {s : Sym} {b : List Int} (h : s.has = true) (hb : b.length < 16) : soE s b = 3 := by unfold soE aoE; rw [if_pos h, if_pos hb]
theorem shown12_any (pcs : Sym → List Value) (hp : SymOK pcs) (w : World) (hg : SGlob w) :
    Calls Tryd.prog 5 #[] w fun e w' => e = .returned (.bool true) ∧ Below w.heap.size w w' := by
  have hw1 : SymW (smix snew [120]) := smix_w snew_w _
  have hw2 : SymW (skey (smix snew [120]) [121]) := skey_w hw1 _
  have M := Mm.init w
  go_enter Tryd.func5, Tryd.ntmps5
  go_upto_region 0 with fail
  refine wp_region_list ?_
  refine readL (.bool false) rfl (by kernel_rfl) ?_
  simp only [aP, lI, l0]
  first | show Exit.then _ _ _ _ _ | show Exit.inBlock _ _ _ _ _
  go_upto_region 1 with fail
  refine wp_region_list ?_
  refine callL rfl (fun _ => by kernel_rfl) (hp.new w _ _ hg M) ?_
  rintro e w1 ⟨B1, rfl, hnew_B1, M', l⟩
  clear M
  have M := M'
  clear M'
  clear l
  refine ⟨_, rfl, ?_⟩
  simp only [aP, lI, l0, lS]
  refine readL (.pointer (some ⟨B1, 0, none⟩)) rfl (by kernel_rfl) ?_
  simp only [aP, lI, l0, lS]
  first | show Exit.then _ _ _ _ _ | show Exit.inBlock _ _ _ _ _
  go_upto_region 2 with fail
  refine wp_region_list ?_
  refine callL rfl (fun _ => by kernel_rfl) (hp.new w _ _ hg M) ?_
  rintro e w2 ⟨B2, rfl, hnew_B2, M', l⟩
  clear M
  have M := M'
  clear M'
  clear l
  refine ⟨_, rfl, ?_⟩
  simp only [aP, lI, l0, lS]
  refine readL (.pointer (some ⟨B2, 0, none⟩)) rfl (by kernel_rfl) ?_
  simp only [aP, lI, l0, lS]
  first | show Exit.then _ _ _ _ _ | show Exit.inBlock _ _ _ _ _
  go_upto_region 3 with fail
  refine wp_region_list ?_
  refine readL (.pointer (some ⟨B1, 0, none⟩)) rfl (by kernel_rfl) ?_
  simp only [aP, lI, l0, lS]
  refine readL (.bool false) rfl (by kernel_rfl) ?_
  simp only [aP, lI, l0, lS]
  refine readL (.bool false) rfl (by kernel_rfl) ?_
  simp only [aP, lI, l0, lS]
  refine readL (.pointer (some ⟨B2, 0, none⟩)) rfl (by kernel_rfl) ?_
  simp only [aP, lI, l0, lS]
  refine readL (.bool false) rfl (by kernel_rfl) ?_
  simp only [aP, lI, l0, lS]
  refine readL (.bool false) rfl (by kernel_rfl) ?_
  simp only [aP, lI, l0, lS]
  first | show Exit.then _ _ _ _ _ | show Exit.inBlock _ _ _ _ _
  go_upto_region 5 with fail
  refine wp_region_list ?_
  refine readL (.pointer (some ⟨B1, 0, none⟩)) rfl (by kernel_rfl) ?_
  simp only [aP, lI, l0, lS]
  refine actL (w' := w2.alloc (.cells (row .u8 1 (bl [120])).toArray 5)) (.slice (some ⟨w2.heap.size, 0, none⟩) 1 1) rfl (by kernel_rfl) ?_
  simp only [aP, lI, l0, lS]
  refine actL (.slice (some ⟨w2.heap.size, 0, none⟩) 1 1) rfl (conv_const 27 5 (row .u8 1 (bl [120])).toArray 1 1 _ rfl rfl Tryd.underlying27 Tryd.underlying5) ?_
  simp only [aP, lI, l0, lS]
  have A_3 : SrcA [B2, B1] (w2.alloc (.cells (row .u8 1 (bl [120])).toArray 5 ((row .u8 1 (bl [120])).toArray.size, (row .u8 1 (bl [120])).toArray.size + 1))) (some ⟨w2.heap.size, 0, none⟩) 1 (bl [120]) := ⟨(has_marked w2 .u8 1 (bl [120]) 5).src0, fun ad e _ hm => by
    injection e with e
    subst e
    simp only [List.mem_cons, List.not_mem_nil, or_false] at hm
    have h0 := M.lt mS
    have h1 := M.lt (mT _ mS)
    omega⟩
  have hlb := (Below.refl w2.heap.size w2).alloc (Nat.le_refl _) (.cells (row .u8 1 (bl [120])).toArray 5 ((row .u8 1 (bl [120])).toArray.size, (row .u8 1 (bl [120])).toArray.size + 1))
  replace M := M.call hlb
  clear hlb
  generalize w2.alloc (.cells (row .u8 1 (bl [120])).toArray 5 ((row .u8 1 (bl [120])).toArray.size, (row .u8 1 (bl [120])).toArray.size + 1)) = w3 at M A_3  ⊢
  generalize (some ⟨w2.heap.size, 0, none⟩ : Option Addr) = p3 at A_3 ⊢
  have hnp_3 : p3 = none → (1 : Nat) = 0 := fun e => by obtain ⟨ad, h1, _⟩ := A_3.1 0 (by decide); rw [e] at h1; cases h1
  replace M := M.swap
  have hlt_O_4_B1 := M.lt mS
  have hlt_O_4_B2 := M.lt (mT _ mS)
  refine callL rfl (fun _ => by kernel_rfl) (hp.sel w _ B1 _ snew hg snew_w (by decide) p3 1 ([120]) (by decide) (by decide) (fun e => hnp_3 e) (by unfold Byts; decide) M (A_3.less (fun b hb => by obtain rfl := List.mem_singleton.1 hb; simp))) ?_
  rintro e w4 ⟨⟨v_4, rfl, O_4⟩, M', o1⟩
  clear M
  have M := M'
  clear M'
  replace A_3 := A_3.off (o1.mono (fun x hx => by obtain rfl := List.mem_singleton.1 hx; simp))
  have hsz_4 := o1.size
  clear o1
  refine ⟨_, rfl, ?_⟩
  obtain ⟨p4, c4, rfl, hcc_4, hnn_4, _, _⟩ := id O_4
  replace O_4 : NewF w4 w3.heap.size (sout snew ([120])).length (bl (sout snew ([120]))) (.slice p4 (sout snew ([120])).length c4) := O_4
  simp only [aP, lI, l0, lS]
  clear A_3 hnp_3
  refine readL (.slice p4 ((sout snew ([120])).length) c4) rfl (by kernel_rfl) ?_
  simp only [aP, lI, l0, lS]
  first | show Exit.then _ _ _ _ _ | show Exit.inBlock _ _ _ _ _
  rw [sseal_bare] at M
  go_upto_region 6 with fail
  refine wp_region_list ?_
  refine readL (.pointer (some ⟨B2, 0, none⟩)) rfl (by kernel_rfl) ?_
  simp only [aP, lI, l0, lS]
  refine actL (w' := w4.alloc (.cells (row .u8 1 (bl [120])).toArray 5)) (.slice (some ⟨w4.heap.size, 0, none⟩) 1 1) rfl (by kernel_rfl) ?_
  simp only [aP, lI, l0, lS]
  refine actL (.slice (some ⟨w4.heap.size, 0, none⟩) 1 1) rfl (conv_const 27 5 (row .u8 1 (bl [120])).toArray 1 1 _ rfl rfl Tryd.underlying27 Tryd.underlying5) ?_
  simp only [aP, lI, l0, lS]
  have A_5 : SrcA [B1, B2] (w4.alloc (.cells (row .u8 1 (bl [120])).toArray 5 ((row .u8 1 (bl [120])).toArray.size, (row .u8 1 (bl [120])).toArray.size + 1))) (some ⟨w4.heap.size, 0, none⟩) 1 (bl [120]) := ⟨(has_marked w4 .u8 1 (bl [120]) 5).src0, fun ad e _ hm => by
    injection e with e
    subst e
    simp only [List.mem_cons, List.not_mem_nil, or_false] at hm
    have h0 := M.lt mS
    have h1 := M.lt (mT _ mS)
    omega⟩
  have hlb := (Below.refl w4.heap.size w4).alloc (Nat.le_refl _) (.cells (row .u8 1 (bl [120])).toArray 5 ((row .u8 1 (bl [120])).toArray.size, (row .u8 1 (bl [120])).toArray.size + 1))
  replace M := M.call hlb
  replace O_4 := NewF.below O_4 hlb
  clear hlb
  generalize w4.alloc (.cells (row .u8 1 (bl [120])).toArray 5 ((row .u8 1 (bl [120])).toArray.size, (row .u8 1 (bl [120])).toArray.size + 1)) = w5 at M A_5 O_4 ⊢
  generalize (some ⟨w4.heap.size, 0, none⟩ : Option Addr) = p5 at A_5 ⊢
  have hnp_5 : p5 = none → (1 : Nat) = 0 := fun e => by obtain ⟨ad, h1, _⟩ := A_5.1 0 (by decide); rw [e] at h1; cases h1
  replace M := M.swap
  refine callL rfl (fun _ => by kernel_rfl) (hp.mix w _ B2 _ snew hg snew_w p5 1 ([120]) (by decide) (by decide) (fun e => hnp_5 e) (by unfold Byts; decide) M (A_5.less (fun b hb => by obtain rfl := List.mem_singleton.1 hb; simp))) ?_
  rintro e w6 ⟨rfl, M', o1⟩
  clear M
  have M := M'
  clear M'
  replace O_4 := NewF.off O_4 o1 (fun b hb => by obtain rfl := List.mem_singleton.1 hb; exact hlt_O_4_B2)
  replace A_5 := A_5.off (o1.mono (fun x hx => by obtain rfl := List.mem_singleton.1 hx; simp))
  clear o1
  refine ⟨_, rfl, ?_⟩
  simp only [aP, lI, l0, lS]
  clear A_5 hnp_5
  first | show Exit.then _ _ _ _ _ | show Exit.inBlock _ _ _ _ _
  go_upto_region 7 with fail
  refine wp_region_list ?_
  refine readL (.pointer (some ⟨B1, 0, none⟩)) rfl (by kernel_rfl) ?_
  simp only [aP, lI, l0, lS]
  replace M := M.swap
  refine callL rfl (fun _ => by kernel_rfl) (hp.hash w _ B1 _ (smix snew [120]) hg M) ?_
  rintro e w7 ⟨rfl, l⟩
  replace M := M.call l
  replace O_4 := NewF.below O_4 l
  clear l
  refine ⟨_, rfl, ?_⟩
  simp only [aP, lI, l0, lS]
  refine readL (.pointer (some ⟨B2, 0, none⟩)) rfl (by kernel_rfl) ?_
  simp only [aP, lI, l0, lS]
  replace M := M.swap
  refine callL rfl (fun _ => by kernel_rfl) (hp.hash w _ B2 _ (smix snew ([120])) hg M) ?_
  rintro e w8 ⟨rfl, l⟩
  replace M := M.call l
  replace O_4 := NewF.below O_4 l
  clear l
  refine ⟨_, rfl, ?_⟩
  simp only [aP, lI, l0, lS]
  refine readL (.bool true) rfl (eqlRow 32 .u8 ((smix snew [120]).h) ((smix snew ([120])).h) 36 5 _ _ _ rfl rfl rfl Tryd.underlying36 Tryd.underlying5 (fun _ => by kernel_rfl) (by kernel_rfl) (fun _ _ => rfl) _) ?_
  simp only [aP, lI, l0, lS]
  refine readL (.bool true) rfl (by kernel_rfl) ?_
  simp only [aP, lI, l0, lS]
  first | show Exit.then _ _ _ _ _ | show Exit.inBlock _ _ _ _ _
  go_upto_region 8 with fail
  refine wp_region_list ?_
  refine readL (.pointer (some ⟨B1, 0, none⟩)) rfl (by kernel_rfl) ?_
  simp only [aP, lI, l0, lS]
  refine actL (w' := w8.alloc (.cells (row .u8 1 (bl [121])).toArray 5)) (.slice (some ⟨w8.heap.size, 0, none⟩) 1 1) rfl (by kernel_rfl) ?_
  simp only [aP, lI, l0, lS]
  refine actL (.slice (some ⟨w8.heap.size, 0, none⟩) 1 1) rfl (conv_const 27 5 (row .u8 1 (bl [121])).toArray 1 1 _ rfl rfl Tryd.underlying27 Tryd.underlying5) ?_
  simp only [aP, lI, l0, lS]
  have A_9 : SrcA [B2, B1] (w8.alloc (.cells (row .u8 1 (bl [121])).toArray 5 ((row .u8 1 (bl [121])).toArray.size, (row .u8 1 (bl [121])).toArray.size + 1))) (some ⟨w8.heap.size, 0, none⟩) 1 (bl [121]) := ⟨(has_marked w8 .u8 1 (bl [121]) 5).src0, fun ad e _ hm => by
    injection e with e
    subst e
    simp only [List.mem_cons, List.not_mem_nil, or_false] at hm
    have h0 := M.lt mS
    have h1 := M.lt (mT _ mS)
    omega⟩
  have hlb := (Below.refl w8.heap.size w8).alloc (Nat.le_refl _) (.cells (row .u8 1 (bl [121])).toArray 5 ((row .u8 1 (bl [121])).toArray.size, (row .u8 1 (bl [121])).toArray.size + 1))
  replace M := M.call hlb
  replace O_4 := NewF.below O_4 hlb
  clear hlb
  generalize w8.alloc (.cells (row .u8 1 (bl [121])).toArray 5 ((row .u8 1 (bl [121])).toArray.size, (row .u8 1 (bl [121])).toArray.size + 1)) = w9 at M A_9 O_4 ⊢
  generalize (some ⟨w8.heap.size, 0, none⟩ : Option Addr) = p9 at A_9 ⊢
  have hnp_9 : p9 = none → (1 : Nat) = 0 := fun e => by obtain ⟨ad, h1, _⟩ := A_9.1 0 (by decide); rw [e] at h1; cases h1
  replace M := M.swap
  refine callL rfl (fun _ => by kernel_rfl) (hp.key w _ B1 _ (smix snew [120]) hg hw1 p9 1 ([121]) (by decide) (by decide) (fun e => hnp_9 e) (by unfold Byts; decide) M (A_9.less (fun b hb => by obtain rfl := List.mem_singleton.1 hb; simp))) ?_
  rintro e w10 ⟨rfl, M', o1⟩
  clear M
  have M := M'
  clear M'
  replace O_4 := NewF.off O_4 o1 (fun b hb => by obtain rfl := List.mem_singleton.1 hb; exact hlt_O_4_B1)
  replace A_9 := A_9.off (o1.mono (fun x hx => by obtain rfl := List.mem_singleton.1 hx; simp))
  clear o1
  refine ⟨_, rfl, ?_⟩
  simp only [aP, lI, l0, lS]
  clear A_9 hnp_9
  first | show Exit.then _ _ _ _ _ | show Exit.inBlock _ _ _ _ _
  go_upto_region 9 with fail
  refine wp_region_list ?_
  refine readL (.pointer (some ⟨B2, 0, none⟩)) rfl (by kernel_rfl) ?_
  simp only [aP, lI, l0, lS]
  refine actL (w' := w10.alloc (.cells (row .u8 1 (bl [121])).toArray 5)) (.slice (some ⟨w10.heap.size, 0, none⟩) 1 1) rfl (by kernel_rfl) ?_
  simp only [aP, lI, l0, lS]
  refine actL (.slice (some ⟨w10.heap.size, 0, none⟩) 1 1) rfl (conv_const 27 5 (row .u8 1 (bl [121])).toArray 1 1 _ rfl rfl Tryd.underlying27 Tryd.underlying5) ?_
  simp only [aP, lI, l0, lS]
  have A_11 : SrcA [B1, B2] (w10.alloc (.cells (row .u8 1 (bl [121])).toArray 5 ((row .u8 1 (bl [121])).toArray.size, (row .u8 1 (bl [121])).toArray.size + 1))) (some ⟨w10.heap.size, 0, none⟩) 1 (bl [121]) := ⟨(has_marked w10 .u8 1 (bl [121]) 5).src0, fun ad e _ hm => by
    injection e with e
    subst e
    simp only [List.mem_cons, List.not_mem_nil, or_false] at hm
    have h0 := M.lt mS
    have h1 := M.lt (mT _ mS)
    omega⟩
  have hlb := (Below.refl w10.heap.size w10).alloc (Nat.le_refl _) (.cells (row .u8 1 (bl [121])).toArray 5 ((row .u8 1 (bl [121])).toArray.size, (row .u8 1 (bl [121])).toArray.size + 1))
  replace M := M.call hlb
  replace O_4 := NewF.below O_4 hlb
  clear hlb
  generalize w10.alloc (.cells (row .u8 1 (bl [121])).toArray 5 ((row .u8 1 (bl [121])).toArray.size, (row .u8 1 (bl [121])).toArray.size + 1)) = w11 at M A_11 O_4 ⊢
  generalize (some ⟨w10.heap.size, 0, none⟩ : Option Addr) = p11 at A_11 ⊢
  have hnp_11 : p11 = none → (1 : Nat) = 0 := fun e => by obtain ⟨ad, h1, _⟩ := A_11.1 0 (by decide); rw [e] at h1; cases h1
  replace M := M.swap
  refine callL rfl (fun _ => by kernel_rfl) (hp.key w _ B2 _ (smix snew ([120])) hg hw1 p11 1 ([121]) (by decide) (by decide) (fun e => hnp_11 e) (by unfold Byts; decide) M (A_11.less (fun b hb => by obtain rfl := List.mem_singleton.1 hb; simp))) ?_
  rintro e w12 ⟨rfl, M', o1⟩
  clear M
  have M := M'
  clear M'
  replace O_4 := NewF.off O_4 o1 (fun b hb => by obtain rfl := List.mem_singleton.1 hb; exact hlt_O_4_B2)
  replace A_11 := A_11.off (o1.mono (fun x hx => by obtain rfl := List.mem_singleton.1 hx; simp))
  clear o1
  refine ⟨_, rfl, ?_⟩
  simp only [aP, lI, l0, lS]
  clear A_11 hnp_11
  first | show Exit.then _ _ _ _ _ | show Exit.inBlock _ _ _ _ _
  go_upto_region 10 with fail
  refine wp_region_list ?_
  refine readL (.pointer (some ⟨B1, 0, none⟩)) rfl (by kernel_rfl) ?_
  simp only [aP, lI, l0, lS]
  refine actL (w' := w12.alloc (.cells (row .u8 1 (bl [120])).toArray 5)) (.slice (some ⟨w12.heap.size, 0, none⟩) 1 1) rfl (by kernel_rfl) ?_
  simp only [aP, lI, l0, lS]
  refine actL (.slice (some ⟨w12.heap.size, 0, none⟩) 1 1) rfl (conv_const 27 5 (row .u8 1 (bl [120])).toArray 1 1 _ rfl rfl Tryd.underlying27 Tryd.underlying5) ?_
  simp only [aP, lI, l0, lS]
  have A_13 : SrcA [B2, B1] (w12.alloc (.cells (row .u8 1 (bl [120])).toArray 5 ((row .u8 1 (bl [120])).toArray.size, (row .u8 1 (bl [120])).toArray.size + 1))) (some ⟨w12.heap.size, 0, none⟩) 1 (bl [120]) := ⟨(has_marked w12 .u8 1 (bl [120]) 5).src0, fun ad e _ hm => by
    injection e with e
    subst e
    simp only [List.mem_cons, List.not_mem_nil, or_false] at hm
    have h0 := M.lt mS
    have h1 := M.lt (mT _ mS)
    omega⟩
  have hlb := (Below.refl w12.heap.size w12).alloc (Nat.le_refl _) (.cells (row .u8 1 (bl [120])).toArray 5 ((row .u8 1 (bl [120])).toArray.size, (row .u8 1 (bl [120])).toArray.size + 1))
  replace M := M.call hlb
  replace O_4 := NewF.below O_4 hlb
  clear hlb
  generalize w12.alloc (.cells (row .u8 1 (bl [120])).toArray 5 ((row .u8 1 (bl [120])).toArray.size, (row .u8 1 (bl [120])).toArray.size + 1)) = w13 at M A_13 O_4 ⊢
  generalize (some ⟨w12.heap.size, 0, none⟩ : Option Addr) = p13 at A_13 ⊢
  have hnp_13 : p13 = none → (1 : Nat) = 0 := fun e => by obtain ⟨ad, h1, _⟩ := A_13.1 0 (by decide); rw [e] at h1; cases h1
  replace M := M.swap
  have hlt_O_14_B1 := M.lt mS
  have hlt_O_14_B2 := M.lt (mT _ mS)
  refine callL rfl (fun _ => by kernel_rfl) (hp.sel w _ B1 _ (skey (smix snew [120]) ([121])) hg hw2 (by decide) p13 1 ([120]) (by decide) (by decide) (fun e => hnp_13 e) (by unfold Byts; decide) M (A_13.less (fun b hb => by obtain rfl := List.mem_singleton.1 hb; simp))) ?_
  rintro e w14 ⟨⟨v_14, rfl, O_14⟩, M', o1⟩
  clear M
  have M := M'
  clear M'
  replace O_4 := NewF.off O_4 o1 (fun b hb => by obtain rfl := List.mem_singleton.1 hb; exact hlt_O_4_B1)
  replace A_13 := A_13.off (o1.mono (fun x hx => by obtain rfl := List.mem_singleton.1 hx; simp))
  have hsz_14 := o1.size
  clear o1
  refine ⟨_, rfl, ?_⟩
  obtain ⟨p14, c14, rfl, hcc_14, hnn_14, _, _⟩ := id O_14
  replace O_14 : NewF w14 w13.heap.size (sout (skey (smix snew [120]) ([121])) ([120])).length (bl (sout (skey (smix snew [120]) ([121])) ([120]))) (.slice p14 (sout (skey (smix snew [120]) ([121])) ([120])).length c14) := O_14
  simp only [aP, lI, l0, lS]
  clear A_13 hnp_13
  refine readL (.slice p14 ((sout (skey (smix snew [120]) ([121])) ([120])).length) c14) rfl (by kernel_rfl) ?_
  simp only [aP, lI, l0, lS]
  first | show Exit.then _ _ _ _ _ | show Exit.inBlock _ _ _ _ _
  go_upto_region 11 with fail
  refine wp_region_list ?_
  refine readL (.pointer (some ⟨B2, 0, none⟩)) rfl (by kernel_rfl) ?_
  simp only [aP, lI, l0, lS]
  refine actL (w' := w14.alloc (.cells (row .u8 1 (bl [120])).toArray 5)) (.slice (some ⟨w14.heap.size, 0, none⟩) 1 1) rfl (by kernel_rfl) ?_
  simp only [aP, lI, l0, lS]
  refine actL (.slice (some ⟨w14.heap.size, 0, none⟩) 1 1) rfl (conv_const 27 5 (row .u8 1 (bl [120])).toArray 1 1 _ rfl rfl Tryd.underlying27 Tryd.underlying5) ?_
  simp only [aP, lI, l0, lS]
  have A_15 : SrcA [B1, B2] (w14.alloc (.cells (row .u8 1 (bl [120])).toArray 5 ((row .u8 1 (bl [120])).toArray.size, (row .u8 1 (bl [120])).toArray.size + 1))) (some ⟨w14.heap.size, 0, none⟩) 1 (bl [120]) := ⟨(has_marked w14 .u8 1 (bl [120]) 5).src0, fun ad e _ hm => by
    injection e with e
    subst e
    simp only [List.mem_cons, List.not_mem_nil, or_false] at hm
    have h0 := M.lt mS
    have h1 := M.lt (mT _ mS)
    omega⟩
  have hlb := (Below.refl w14.heap.size w14).alloc (Nat.le_refl _) (.cells (row .u8 1 (bl [120])).toArray 5 ((row .u8 1 (bl [120])).toArray.size, (row .u8 1 (bl [120])).toArray.size + 1))
  replace M := M.call hlb
  replace O_4 := NewF.below O_4 hlb
  replace O_14 := NewF.below O_14 hlb
  clear hlb
  generalize w14.alloc (.cells (row .u8 1 (bl [120])).toArray 5 ((row .u8 1 (bl [120])).toArray.size, (row .u8 1 (bl [120])).toArray.size + 1)) = w15 at M A_15 O_4 O_14 ⊢
  generalize (some ⟨w14.heap.size, 0, none⟩ : Option Addr) = p15 at A_15 ⊢
  have hnp_15 : p15 = none → (1 : Nat) = 0 := fun e => by obtain ⟨ad, h1, _⟩ := A_15.1 0 (by decide); rw [e] at h1; cases h1
  replace M := M.swap
  have hlt_O_16_B2 := M.lt mS
  have hlt_O_16_B1 := M.lt (mT _ mS)
  refine callL rfl (fun _ => by kernel_rfl) (hp.opn w _ B2 _ (skey (smix snew ([120])) ([121])) hg hw2 (by decide) p15 1 ([120]) (by decide) (by decide) (fun e => hnp_15 e) (by unfold Byts; decide) M (A_15.less (fun b hb => by obtain rfl := List.mem_singleton.1 hb; simp))) ?_
  rintro e w16 ⟨⟨v_16, rfl, O_16⟩, M', o1⟩
  clear M
  have M := M'
  clear M'
  replace O_4 := NewF.off O_4 o1 (fun b hb => by obtain rfl := List.mem_singleton.1 hb; exact hlt_O_4_B2)
  replace O_14 := NewF.off O_14 o1 (fun b hb => by obtain rfl := List.mem_singleton.1 hb; exact hlt_O_14_B2)
  replace A_15 := A_15.off (o1.mono (fun x hx => by obtain rfl := List.mem_singleton.1 hx; simp))
  clear o1
  refine ⟨_, rfl, ?_⟩
  obtain ⟨p16, c16, rfl, hcc_16, hnn_16, _, _⟩ := id O_16
  replace O_16 : NewF w16 w15.heap.size (soT (skey (smix snew ([120])) ([121])) ([120])).length (bl (soT (skey (smix snew ([120])) ([121])) ([120]))) (.slice p16 (soT (skey (smix snew ([120])) ([121])) ([120])).length c16) := O_16
  simp only [aP, lI, l0, lS]
  clear A_15 hnp_15
  refine readL (.tuple #[.slice p16 ((soT (skey (smix snew ([120])) ([121])) ([120])).length) c16, .int .i64 (soE (skey (smix snew ([120])) ([121])) ([120]))]) rfl (by kernel_rfl) ?_
  simp only [aP, lI, l0, lS]
  refine readL (.slice p16 ((soT (skey (smix snew ([120])) ([121])) ([120])).length) c16) rfl (by kernel_rfl) ?_
  simp only [aP, lI, l0, lS]
  refine readL (.int .i64 (soE (skey (smix snew ([120])) ([121])) ([120]))) rfl (by kernel_rfl) ?_
  simp only [aP, lI, l0, lS]
  refine readL (.slice p16 ((soT (skey (smix snew ([120])) ([121])) ([120])).length) c16) rfl (by kernel_rfl) ?_
  simp only [aP, lI, l0, lS]
  refine readL (.int .i64 (soE (skey (smix snew ([120])) ([121])) ([120]))) rfl (by kernel_rfl) ?_
  simp only [aP, lI, l0, lS]
  first | show Exit.then _ _ _ _ _ | show Exit.inBlock _ _ _ _ _
  have hE3 : soE (skey (smix snew [120]) [121]) [120] = 3 := soE_short rfl (by decide)
  rw [sopen_turned (s := (skey (smix snew [120]) [121])) (f := [120]) (by rw [hE3]; decide)] at M
  go_upto_region 12 with fail
  refine wp_region_list ?_
  refine readL (.pointer (some ⟨B2, 0, none⟩)) rfl (by kernel_rfl) ?_
  simp only [aP, lI, l0, lS]
  refine readL (.slice p14 ((sout (skey (smix snew [120]) ([121])) ([120])).length) c14) rfl (by kernel_rfl) ?_
  simp only [aP, lI, l0, lS]
  have hlt_O_17_B2 := M.lt mS
  have hlt_O_17_B1 := M.lt (mT _ mS)
  refine callL rfl (fun _ => by kernel_rfl) (hp.opn w _ B2 _ (skey (smix snew [120]) [121]) hg hw2 (by decide) p14 c14 (sout (skey (smix snew [120]) ([121])) ([120])) (by rw [sout_length]; exact (by decide : 17 ≤ 140737488351248)) hcc_14 hnn_14 (sout_byts (by unfold Byts; decide)) M (NewF.srcA O_14 (fun b hb => by obtain rfl := List.mem_singleton.1 hb; exact hlt_O_14_B2))) ?_
  rintro e w17 ⟨⟨v_17, rfl, O_17⟩, M', o1⟩
  clear M
  have M := M'
  clear M'
  replace O_4 := NewF.off O_4 o1 (fun b hb => by obtain rfl := List.mem_singleton.1 hb; exact hlt_O_4_B2)
  replace O_14 := NewF.off O_14 o1 (fun b hb => by obtain rfl := List.mem_singleton.1 hb; exact hlt_O_14_B2)
  replace O_16 := NewF.off O_16 o1 (fun b hb => by obtain rfl := List.mem_singleton.1 hb; exact hlt_O_16_B2)
  clear o1
  refine ⟨_, rfl, ?_⟩
  obtain ⟨p17, c17, rfl, hcc_17, hnn_17, _, _⟩ := id O_17
  replace O_17 : NewF w17 w16.heap.size (soT (skey (smix snew [120]) [121]) (sout (skey (smix snew [120]) ([121])) ([120]))).length (bl (soT (skey (smix snew [120]) [121]) (sout (skey (smix snew [120]) ([121])) ([120])))) (.slice p17 (soT (skey (smix snew [120]) [121]) (sout (skey (smix snew [120]) ([121])) ([120]))).length c17) := O_17
  simp only [aP, lI, l0, lS]
  refine readL (.tuple #[.slice p17 ((soT (skey (smix snew [120]) [121]) (sout (skey (smix snew [120]) ([121])) ([120]))).length) c17, .int .i64 (soE (skey (smix snew [120]) [121]) (sout (skey (smix snew [120]) ([121])) ([120])))]) rfl (by kernel_rfl) ?_
  simp only [aP, lI, l0, lS]
  refine readL (.slice p17 ((soT (skey (smix snew [120]) [121]) (sout (skey (smix snew [120]) ([121])) ([120]))).length) c17) rfl (by kernel_rfl) ?_
  simp only [aP, lI, l0, lS]
  refine readL (.int .i64 (soE (skey (smix snew [120]) [121]) (sout (skey (smix snew [120]) ([121])) ([120])))) rfl (by kernel_rfl) ?_
  simp only [aP, lI, l0, lS]
  refine readL (.slice p17 ((soT (skey (smix snew [120]) [121]) (sout (skey (smix snew [120]) ([121])) ([120]))).length) c17) rfl (by kernel_rfl) ?_
  simp only [aP, lI, l0, lS]
  refine readL (.int .i64 (soE (skey (smix snew [120]) [121]) (sout (skey (smix snew [120]) ([121])) ([120])))) rfl (by kernel_rfl) ?_
  simp only [aP, lI, l0, lS]
  first | show Exit.then _ _ _ _ _ | show Exit.inBlock _ _ _ _ _
  rw [sopen_back] at M
  go_upto_region 13 with fail
  refine wp_region_list ?_
  refine readL (.slice p4 ((sout snew ([120])).length) c4) rfl (by kernel_rfl) ?_
  simp only [aP, lI, l0, lS]
  refine readL (.string (txt ((sout snew ([120])).length) (bl (sout snew ([120]))))) rfl (conv_txt 27 5 9 _ rfl Tryd.underlying27 Tryd.underlying5 Tryd.underlying9 p4 ((sout snew ([120])).length) c4 (bl (sout snew ([120]))) rfl _ (NewF.src O_4) (fun e => by have h1 := hnn_4 e; have h2 := hcc_4; omega)) ?_
  simp only [aP, lI, l0, lS]
  refine readL (.bool true) rfl (eqlS _ _ _ _ _ _ rfl rfl rfl (by kernel_rfl) _) ?_
  simp only [aP, lI, l0, lS]
  refine readL (.bool true) rfl (by kernel_rfl) ?_
  simp only [aP, lI, l0, lS]
  refine readL (.bool true) rfl (by kernel_rfl) ?_
  simp only [aP, lI, l0, lS]
  refine readL (.bool true) rfl (by kernel_rfl) ?_
  simp only [aP, lI, l0, lS]
  refine readL (.bool true) rfl (by kernel_rfl) ?_
  simp only [aP, lI, l0, lS]
  refine readL (.slice p14 ((sout (skey (smix snew [120]) ([121])) ([120])).length) c14) rfl (by kernel_rfl) ?_
  simp only [aP, lI, l0, lS]
  refine readL (.int .i64 (((sout (skey (smix snew [120]) ([121])) ([120])).length : Nat) : Int)) rfl (lenS _ 27 5 p14 ((sout (skey (smix snew [120]) ([121])) ([120])).length) c14 rfl Tryd.underlying27 rfl _) ?_
  simp only [aP, lI, l0, lS]
  refine readL (.bool true) rfl (eqlI .i64 _ _ _ _ _ _ rfl rfl rfl true (by rw [sout_length]; rfl) _) ?_
  simp only [aP, lI, l0, lS]
  refine readL (.bool true) rfl (by kernel_rfl) ?_
  simp only [aP, lI, l0, lS]
  refine readL (.bool true) rfl (by kernel_rfl) ?_
  simp only [aP, lI, l0, lS]
  refine readL (.int .i64 (soE (skey (smix snew ([120])) ([121])) ([120]))) rfl (by kernel_rfl) ?_
  simp only [aP, lI, l0, lS]
  refine readL (.bool true) rfl (eqlI .i64 _ _ _ _ _ _ rfl rfl rfl true (by rw [hE3]; rfl) _) ?_
  simp only [aP, lI, l0, lS]
  refine readL (.bool true) rfl (by kernel_rfl) ?_
  simp only [aP, lI, l0, lS]
  refine readL (.bool true) rfl (by kernel_rfl) ?_
  simp only [aP, lI, l0, lS]
  refine readL (.slice p17 ((soT (skey (smix snew [120]) [121]) (sout (skey (smix snew [120]) ([121])) ([120]))).length) c17) rfl (by kernel_rfl) ?_
  simp only [aP, lI, l0, lS]
  refine readL (.string (txt ((soT (skey (smix snew [120]) [121]) (sout (skey (smix snew [120]) ([121])) ([120]))).length) (bl (soT (skey (smix snew [120]) [121]) (sout (skey (smix snew [120]) ([121])) ([120])))))) rfl (conv_txt 27 5 9 _ rfl Tryd.underlying27 Tryd.underlying5 Tryd.underlying9 p17 ((soT (skey (smix snew [120]) [121]) (sout (skey (smix snew [120]) ([121])) ([120]))).length) c17 (bl (soT (skey (smix snew [120]) [121]) (sout (skey (smix snew [120]) ([121])) ([120])))) rfl _ (NewF.src O_17) (fun e => by have h1 := hnn_17 e; have h2 := hcc_17; omega)) ?_
  simp only [aP, lI, l0, lS]
  refine readL (.bool true) rfl (eqlS _ _ _ _ _ _ rfl rfl rfl (by rw [soT_back _ _ (by unfold Byts; decide)]; rfl) _) ?_
  simp only [aP, lI, l0, lS]
  refine readL (.bool true) rfl (by kernel_rfl) ?_
  simp only [aP, lI, l0, lS]
  refine readL (.bool true) rfl (by kernel_rfl) ?_
  simp only [aP, lI, l0, lS]
  refine readL (.int .i64 (soE (skey (smix snew [120]) [121]) (sout (skey (smix snew [120]) ([121])) ([120])))) rfl (by kernel_rfl) ?_
  simp only [aP, lI, l0, lS]
  refine readL (.bool true) rfl (eqlI .i64 _ _ _ _ _ _ rfl rfl rfl true (by rw [soE_back]; rfl) _) ?_
  simp only [aP, lI, l0, lS]
  refine readL (.bool true) rfl (by kernel_rfl) ?_
  simp only [aP, lI, l0, lS]
  refine readL (.bool true) rfl (by kernel_rfl) ?_
  simp only [aP, lI, l0, lS]
  refine readL (.pointer (some ⟨B1, 0, none⟩)) rfl (by kernel_rfl) ?_
  simp only [aP, lI, l0, lS]
  replace M := M.swap
  refine callL rfl (fun _ => by kernel_rfl) (hp.hash w _ B1 _ (sseal (skey (smix snew [120]) ([121])) ([120])) hg M) ?_
  rintro e w18 ⟨rfl, l⟩
  replace M := M.call l
  replace O_4 := NewF.below O_4 l
  replace O_14 := NewF.below O_14 l
  replace O_16 := NewF.below O_16 l
  replace O_17 := NewF.below O_17 l
  clear l
  refine ⟨_, rfl, ?_⟩
  simp only [aP, lI, l0, lS]
  refine readL (.pointer (some ⟨B2, 0, none⟩)) rfl (by kernel_rfl) ?_
  simp only [aP, lI, l0, lS]
  replace M := M.swap
  refine callL rfl (fun _ => by kernel_rfl) (hp.hash w _ B2 _ (sseal (skey (smix snew [120]) [121]) [120]) hg M) ?_
  rintro e w19 ⟨rfl, l⟩
  replace M := M.call l
  replace O_4 := NewF.below O_4 l
  replace O_14 := NewF.below O_14 l
  replace O_16 := NewF.below O_16 l
  replace O_17 := NewF.below O_17 l
  clear l
  refine ⟨_, rfl, ?_⟩
  simp only [aP, lI, l0, lS]
  refine readL (.bool true) rfl (eqlRow 32 .u8 ((sseal (skey (smix snew [120]) ([121])) ([120])).h) ((sseal (skey (smix snew [120]) [121]) [120]).h) 36 5 _ _ _ rfl rfl rfl Tryd.underlying36 Tryd.underlying5 (fun _ => by kernel_rfl) (by kernel_rfl) (fun _ _ => rfl) _) ?_
  simp only [aP, lI, l0, lS]
  refine readL (.bool true) rfl (by kernel_rfl) ?_
  simp only [aP, lI, l0, lS]
  refine readL (.bool true) rfl (by kernel_rfl) ?_
  simp only [aP, lI, l0]
  first | show Exit.then _ _ _ _ _ | show Exit.inBlock _ _ _ _ _
  have hB := M.below
  clear M O_4 O_14 O_16 O_17
  go_wp2
  go_ret
  exact ⟨rfl, hB⟩
theorem row_map (l : List Int) : row .u8 l.length (bl l) = l.map (Value.int .u8) := by
  refine List.ext_getElem? fun j => ?_
  by_cases hj : j < l.length
  · rw [row_get .u8 l.length (bl l) j hj, List.getElem?_map, List.getElem?_eq_getElem hj]
    unfold bl
    rw [List.getD_eq_getElem?_getD, List.getElem?_eq_getElem hj]
    rfl
  · rw [List.getElem?_eq_none (by rw [row_length]; omega), List.getElem?_eq_none (by rw [List.length_map]; omega)]
theorem map_get8 (l : List Int) (j : Nat) (hj : j < l.length) : (l.map (Value.int .u8))[j]? = some (.int .u8 (bl l j)) := by rw [← row_map]; exact row_get .u8 l.length (bl l) j hj
theorem bl_set (l : List Int) (j i : Nat) (x : Int) (hj : j < l.length) : bl (l.set j x) i = if i = j then x else bl l i := by
  unfold bl
  rw [List.getD_eq_getElem?_getD, List.getElem?_set, List.getD_eq_getElem?_getD]
  by_cases h : j = i
  · subst h
    rw [if_pos rfl, if_pos hj, if_pos rfl]
    rfl
  · rw [if_neg h, if_neg (fun e => h e.symm)]
theorem Byts.set {l : List Int} (h : Byts l) (j : Nat) {x : Int} (hx : 0 ≤ x ∧ x < 256) : Byts (l.set j x) := fun y hy => by
  rcases List.mem_or_eq_of_mem_set hy with h1 | rfl
  · exact h y h1
  · exact hx
theorem Mm.ofHas {w0 w : World} {l : List (Nat × List Value)} (h : Mm w0 l w) {g n : Nat} {f : Nat → Int} (H : Has w g .u8 n f) (h1 : w0.heap.size ≤ g) (h2 : g < w.heap.size) (h3 : ∀ p ∈ l, p.1 ≠ g) : Mm w0 ((g, row .u8 n f) :: l) w := by
  refine ⟨fun p hp => ?_, List.pairwise_cons.2 ⟨fun p hp => (h3 p hp).symm, h.apart⟩, h.below⟩
  rcases List.mem_cons.1 hp with rfl | hp
  · refine ⟨fun j hj => ?_, h1, h2⟩
    rw [row_length] at hj
    exact ⟨by rw [H.cell j hj, row_get .u8 n f j hj], H.free j hj⟩
  · exact h.rows p hp
end Go.Proofs.YtgfpflcoknpbdaaDoor
