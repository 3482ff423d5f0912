/- Texts of Yq Opn Open12 Tb Door12, joined. -/
import Derived.Test.YtgfpflcoknpbdaaDoorP13SymmetricAgrees
import Derived.Test.YtgfpflcoknpbdaaDoorP1SymmetricAgrees
import Derived.ProofKit
import Derived.LaidMore
import Derived.OpenShut
import Derived.SizedLaws
import Derived.Deep.Strs
import Derived.Stop.Joined
import Derived.Test.YtgfpflcoknpbdaaDoorRows
import Derived.Test.YtgfpflcoknpbdaaDoorP9SymmetricAgrees
import Derived.JoinedCond
import Derived.Carry
import Derived.Test.YtgfpflcoknpbdaaDoorP8SymmetricAgrees
set_option maxRecDepth 20000
set_option maxHeartbeats 64000000
namespace Go.Proofs.YtgfpflcoknpbdaaDoor
open Go.RowKit
theorem vseal12_any (w0 w : World) (R : Nat) (l : List (Nat × List Value)) (s : Sym) (hg : SGlob w0) (hsw : SymW s) (hn : s.n < 4611686018427387904) (sp : Option Addr) (cap : Nat) (b : List Int) (hlen : b.length ≤ 140737488351232) (hcap : b.length ≤ cap) (hnil : sp = none → cap = 0) (hb : Byts b) (M : Mm w0 ((R, pcs12 s) :: l) w) (hs : SrcA [R] w sp b.length (bl b)) : Calls Tryd.prog 11 #[.pointer (some ⟨R, 0, none⟩), .slice sp b.length cap] w fun e w' => (∃ v, e = .returned v ∧ NewL w' w.heap.size (sout s b) v) ∧ Mm w0 ((R, pcs12 (sseal s b)) :: l) w' ∧ Off [R] w w' := by
  have hRw := M.lt mS
  have hR0 := M.below.size
  have hwz := Nat.le_refl w.heap.size
  have _hML0 : ∀ p ∈ l, p.1 < w.heap.size := fun p hp => (M.rows p (mT _ hp)).2.2
  have OF := Off.refl [R] w
  go_enter Tryd.func11, Tryd.ntmps11
  go_upto_region 0 with fail
  refine wp_region_list ?_
  refine readL (.slice none 0 0) rfl (by kernel_rfl) ?_
  simp only [aP, lI, l0, lS]
  first | show Exit.then _ _ _ _ _ | show Exit.inBlock _ _ _ _ _
  go_upto_region 1 with fail
  refine wp_region_list ?_
  refine readL (.slice sp b.length cap) rfl (by kernel_rfl) ?_
  simp only [aP, lI, l0, lS]
  refine callL rfl (fun _ => by kernel_rfl) (clone_any sp b.length cap (by omega) hcap hnil (bl b) _ (hs.off OF).1) ?_
  rintro e w1 ⟨v, rfl, hO, l⟩
  have N_1 : NewL w1 w.heap.size b v := NewF.of_own (hO.lower hwz)
  replace M := M.call l
  replace OF := OF.below l
  replace hwz := Nat.le_trans hwz l.size
  clear l hO
  obtain ⟨p1, c1, rfl, hcc_1, hnn_1, _, _⟩ := id N_1
  refine ⟨_, rfl, ?_⟩
  simp only [aP, lI, l0, lS]
  refine readL (.slice p1 b.length c1) rfl (by kernel_rfl) ?_
  simp only [aP, lI, l0, lS]
  first | show Exit.then _ _ _ _ _ | show Exit.inBlock _ _ _ _ _
  go_upto_region 2 with fail
  refine wp_region_list ?_
  refine readL (.pointer (some ⟨R, 0, none⟩)) rfl (by kernel_rfl) ?_
  simp only [aP, lI, l0, lS]
  refine readL (.pointer (some ⟨R, 0, none⟩)) rfl (by kernel_rfl) ?_
  simp only [aP, lI, l0, lS]
  refine readL (.pointer (some ⟨R, 96, none⟩)) rfl (by kernel_rfl) ?_
  simp only [aP, lI, l0, lS]
  refine readL (.bool s.has) rfl (load1 4 _ ⟨R, 96, none⟩ _ rfl rfl (fun _ => by kernel_rfl) (M.get mS 96 _ (pcs12_rest s 0))) ?_
  simp only [aP, lI, l0, lS]
  first | show Exit.then _ _ _ _ _ | show Exit.inBlock _ _ _ _ _
  cases hhas : s.has with
  | true =>
    go_upto_region 3 with fail
    refine wp_region_held_drew (S := fun w' => Mm w0 ((R, pcs12 s) :: l) w') (by kernel_rfl) M.drew ?_
    clear M
    intro M
    have hdr := (Below.refl w1.heap.size w1).drew
    replace OF := OF.below hdr
    replace N_1 := NewF.below N_1 hdr
    replace hwz := Nat.le_trans hwz hdr.size
    clear hdr
    generalize w1.drew = w2 at M hwz OF N_1 ⊢
    refine readHg (i := 0) (some 12) rfl (.pointer (some ⟨R, 0, none⟩)) rfl rfl (fun _ M => (by kernel_rfl)) M ?_
    simp only [aP, lI, l0, lS]
    refine readHg (i := 1) (some 13) rfl (.pointer (some ⟨R, 0, none⟩)) rfl rfl (fun _ M => (by kernel_rfl)) M ?_
    simp only [aP, lI, l0, lS]
    refine readHg (i := 2) (some 14) rfl (.pointer (some ⟨R, 64, none⟩)) rfl rfl (fun _ M => (by kernel_rfl)) M ?_
    simp only [aP, lI, l0, lS]
    refine readHg (i := 3) (some 15) rfl (.agg (row .u8 32 s.k).toArray) rfl rfl (fun _ M => loadN 36 _ ⟨R, 64, none⟩ (row .u8 32 s.k) rfl rfl (fun _ => by kernel_rfl) (fun _ => by rw [row32]; kernel_rfl) (M.part mS 64 _ (pcs12_k s))) M ?_
    simp only [aP, lI, l0, lS]
    refine readHg (i := 4) (some 16) rfl (.pointer (some ⟨R, 0, none⟩)) rfl rfl (fun _ M => (by kernel_rfl)) M ?_
    simp only [aP, lI, l0, lS]
    refine readHg (i := 5) (some 17) rfl (.pointer (some ⟨R, 0, none⟩)) rfl rfl (fun _ M => (by kernel_rfl)) M ?_
    simp only [aP, lI, l0, lS]
    refine readHg (i := 6) (some 18) rfl (.pointer (some ⟨R, 97, none⟩)) rfl rfl (fun _ M => (by kernel_rfl)) M ?_
    simp only [aP, lI, l0, lS]
    refine readHg (i := 7) (some 19) rfl (.int .u64 ((s.n : Nat) : Int)) rfl rfl (fun _ M => load1 45 _ ⟨R, 97, none⟩ _ rfl rfl (fun _ => by kernel_rfl) (M.get mS 97 _ (pcs12_rest s 1))) M ?_
    simp only [aP, lI, l0, lS]
    refine readHg (i := 9) (some 21) rfl (.pointer (some ⟨R, 0, none⟩)) rfl rfl (fun _ M => (by kernel_rfl)) M ?_
    simp only [aP, lI, l0, lS]
    refine readHg (i := 10) (some 22) rfl (.pointer (some ⟨R, 0, none⟩)) rfl rfl (fun _ M => (by kernel_rfl)) M ?_
    simp only [aP, lI, l0, lS]
    refine readHg (i := 11) (some 23) rfl (.pointer (some ⟨R, 0, none⟩)) rfl rfl (fun _ M => (by kernel_rfl)) M ?_
    simp only [aP, lI, l0, lS]
    refine readHg (i := 12) (some 24) rfl (.slice (some ⟨R, 0, none⟩) 32 32) rfl rfl (fun _ M => cutAll 36 _ _ _ rfl rfl (by kernel_rfl)) M ?_
    simp only [aP, lI, l0, lS]
    refine readHg (i := 13) (some 25) rfl (.slice sp b.length cap) rfl rfl (fun _ M => (by kernel_rfl)) M ?_
    simp only [aP, lI, l0, lS]
    refine callH (i := 8) (some 20) rfl (by kernel_rfl) rfl rfl (fun _ => by kernel_rfl) (vnonce12_any s.n _) ?_
    rintro e w3 ⟨rfl, l⟩
    replace M := M.call l
    replace OF := OF.below l
    replace N_1 := NewF.below N_1 l
    replace hwz := Nat.le_trans hwz l.size
    clear l
    refine ⟨_, rfl, M, ?_⟩
    simp only [aP, lI, l0, lS]
    refine callH (i := 14) (some 26) rfl (by kernel_rfl) rfl rfl (fun _ => by kernel_rfl) (aseal_any s.k (snz s.n) hsw.k (snz_in s.n) (some ⟨R, 0, none⟩) 32 32 (by decide) (by decide) (fun e => by cases e) s.h hsw.h sp b.length cap hlen hcap hnil (bl b) hb.bl _ (hg.mm M).a (M.srcRow mS 0 32 _ (pcs12_h s)) (hs.off OF).1) ?_
    rintro e w4 ⟨B', c4, rfl, ⟨hcc_4, hB1, hB2, HA⟩, l⟩
    replace M := M.call l
    have N_4 : NewL w4 w.heap.size (sout s b) (.slice (some ⟨B', 0, none⟩) (b.length + 16) c4) := by
      unfold NewL
      rw [sout_length, if_pos hhas]
      exact (NewF.of_has HA hcc_4 (Nat.le_trans hwz hB1) hB2).congr (fun j hj => (sout_bl hhas b j hj).symm)
    replace OF := OF.below l
    replace N_1 := NewF.below N_1 l
    replace hwz := Nat.le_trans hwz l.size
    clear l HA hB1 hB2
    have hol : b.length + 16 = (sout s b).length := by rw [sout_length, if_pos hhas]
    rw [hol] at N_4 hcc_4 ⊢
    clear hol
    refine ⟨_, rfl, M, ?_⟩
    simp only [aP, lI, l0, lS]
    refine readHg (i := 15) (some 5) rfl (.slice (some ⟨B', 0, none⟩) ((sout s b).length) c4) rfl rfl (fun _ M => (by kernel_rfl)) M ?_
    simp only [aP, lI, l0, lS]
    refine wpAnyH_done (by kernel_rfl) ?_ _
    first | show Exit.then _ _ _ _ _ | show Exit.inBlock _ _ _ _ _
    clear N_1
    go_upto_region 4 with fail
    refine wp_region_list ?_
    refine readL (.pointer (some ⟨R, 0, none⟩)) rfl (by kernel_rfl) ?_
    simp only [aP, lI, l0, lS]
    refine readL (.pointer (some ⟨R, 0, none⟩)) rfl (by kernel_rfl) ?_
    simp only [aP, lI, l0, lS]
    refine readL (.pointer (some ⟨R, 97, none⟩)) rfl (by kernel_rfl) ?_
    simp only [aP, lI, l0, lS]
    refine readL (.int .u64 ((s.n : Nat) : Int)) rfl (load1 45 _ ⟨R, 97, none⟩ _ rfl rfl (fun _ => by kernel_rfl) (M.get mS 97 _ (pcs12_rest s 1))) ?_
    simp only [aP, lI, l0, lS]
    refine readL (.int .u64 ((s.n + 1 : Nat) : Int)) rfl (addI .u64 _ _ _ _ _ _ _ rfl rfl rfl (by rw [IntKind.wrap_u64]; omega) _) ?_
    simp only [aP, lI, l0, lS]
    refine readL (.pointer (some ⟨R, 0, none⟩)) rfl (by kernel_rfl) ?_
    simp only [aP, lI, l0, lS]
    refine readL (.pointer (some ⟨R, 97, none⟩)) rfl (by kernel_rfl) ?_
    simp only [aP, lI, l0, lS]
    refine skipOpL rfl (storeAny (.int .u64 ((s.n + 1 : Nat) : Int)) R 97 45 _ _ rfl rfl rfl rfl rfl (M.isSome mS 97 (by rw [pcs12_len]; decide)) (M.free mS 97 (by rw [pcs12_len]; decide)) (by kernel_rfl)) ?_
    simp only [Act.put]
    replace M := M.set 97 (by rw [pcs12_len]; decide) (.int .u64 ((s.n + 1 : Nat) : Int))
    rw [show (.int .u64 ((s.n + 1 : Nat) : Int) : Value) = .int .u64 ((s.n + 1 : Nat) : Int) from rfl, pcs12_set97] at M
    replace N_4 := NewF.off N_4 ((Off.refl [R] _).set (b := R) mS 97 (.int .u64 ((s.n + 1 : Nat) : Int))) (fun b hb => by obtain rfl := List.mem_singleton.1 hb; omega)
    replace OF := OF.and1 ((Off.refl [R] _).set (b := R) mS 97 (.int .u64 ((s.n + 1 : Nat) : Int))) (.inl mS)
    generalize w4.setCell ⟨R, 97, none⟩ (.int .u64 ((s.n + 1 : Nat) : Int)) = w5 at M OF N_4 ⊢
    replace M : Mm w0 ((R, pcs12 (⟨s.h, s.c, s.k, s.has, s.n + 1⟩ : Sym)) :: l) w5 := M
    first | show Exit.then _ _ _ _ _ | show Exit.inBlock _ _ _ _ _
    go_upto_region 5 with fail
    refine wp_region_list ?_
    refine readL (.pointer (some ⟨R, 0, none⟩)) rfl (by kernel_rfl) ?_
    simp only [aP, lI, l0, lS]
    refine readL (.slice (some ⟨B', 0, none⟩) ((sout s b).length) c4) rfl (by kernel_rfl) ?_
    simp only [aP, lI, l0, lS]
    refine callL rfl (fun _ => by kernel_rfl) (vmix12_any w0 _ R _ (⟨s.h, s.c, s.k, s.has, s.n + 1⟩ : Sym) hg (SymW.mk hsw.h hsw.c hsw.k) (some ⟨B', 0, none⟩) c4 (sout s b) (by rw [sout_length, if_pos hhas]; omega) hcc_4 (fun e => by cases e) (sout_byts hb) M (NewF.srcA N_4 (fun y hy => by obtain rfl := List.mem_singleton.1 hy; exact hRw))) ?_
    rintro e w6 ⟨rfl, M', o1⟩
    clear M
    have M := M'
    clear M'
    replace OF := OF.trans o1
    replace N_4 := NewF.off N_4 o1 (fun b hb => by obtain rfl := List.mem_singleton.1 hb; omega)
    clear o1
    refine ⟨_, rfl, ?_⟩
    simp only [aP, lI, l0, lS]
    first | show Exit.then _ _ _ _ _ | show Exit.inBlock _ _ _ _ _
    go_upto_region 6 with fail
    refine wp_region_list ?_
    refine readL (.slice (some ⟨B', 0, none⟩) ((sout s b).length) c4) rfl (by kernel_rfl) ?_
    simp only [aP, lI, l0, lS]
    refine readL (.slice (some ⟨B', 0, none⟩) ((sout s b).length) c4) rfl (by kernel_rfl) ?_
    simp only [aP, lI, l0, lS]
    first | show Exit.then _ _ _ _ _ | show Exit.inBlock _ _ _ _ _
    rw [← smix_next s (sout s b) hhas] at M
    have HS := show Hid _ from (And.intro N_4 (And.intro M OF))
    clear N_4 M OF
    go_wp2
    go_ret
    exact ⟨⟨_, rfl, HS.out.1⟩, HS.out.2⟩
  | false =>
    have hso : sout s b = b := by unfold sout; rw [hhas]; rfl
    have hsn : snext s = s := by unfold snext; rw [hhas]; rfl
    go_upto_region 5 with fail
    refine wp_region_list ?_
    refine readL (.pointer (some ⟨R, 0, none⟩)) rfl (by kernel_rfl) ?_
    simp only [aP, lI, l0, lS]
    refine readL (.slice p1 b.length c1) rfl (by kernel_rfl) ?_
    simp only [aP, lI, l0, lS]
    refine callL rfl (fun _ => by kernel_rfl) (vmix12_any w0 _ R _ s hg hsw p1 c1 b (by omega) hcc_1 hnn_1 hb M (NewF.srcA N_1 (fun y hy => by obtain rfl := List.mem_singleton.1 hy; exact hRw))) ?_
    rintro e w7 ⟨rfl, M', o1⟩
    clear M
    have M := M'
    clear M'
    replace OF := OF.trans o1
    replace N_1 := NewF.off N_1 o1 (fun b hb => by obtain rfl := List.mem_singleton.1 hb; omega)
    clear o1
    refine ⟨_, rfl, ?_⟩
    simp only [aP, lI, l0, lS]
    first | show Exit.then _ _ _ _ _ | show Exit.inBlock _ _ _ _ _
    go_upto_region 6 with fail
    refine wp_region_list ?_
    refine readL (.slice p1 b.length c1) rfl (by kernel_rfl) ?_
    simp only [aP, lI, l0, lS]
    refine readL (.slice p1 b.length c1) rfl (by kernel_rfl) ?_
    simp only [aP, lI, l0, lS]
    first | show Exit.then _ _ _ _ _ | show Exit.inBlock _ _ _ _ _
    have hss : sseal s b = smix s b := by unfold sseal; rw [hso, hsn]
    have HS := show Hid _ from (And.intro N_1 (And.intro M OF))
    clear N_1 M OF
    go_wp2
    go_ret
    exact ⟨⟨_, rfl, by rw [hso]; exact HS.out.1⟩, by rw [hss]; exact HS.out.2.1, HS.out.2.2⟩
theorem vopen12_any (w0 w : World) (R : Nat) (l : List (Nat × List Value)) (s : Sym) (hg : SGlob w0) (hsw : SymW s) (hn : s.n < 4611686018427387904) (sp : Option Addr) (cap : Nat) (b : List Int) (hlen : b.length ≤ 140737488351248) (hcap : b.length ≤ cap) (hnil : sp = none → cap = 0) (hb : Byts b) (M : Mm w0 ((R, pcs12 s) :: l) w) (hs : SrcA [R] w sp b.length (bl b)) : Calls Tryd.prog 10 #[.pointer (some ⟨R, 0, none⟩), .slice sp b.length cap] w fun e w' => (∃ v, e = .returned (.tuple #[v, .int .i64 (soE s b)]) ∧ NewL w' w.heap.size (soT s b) v) ∧ Mm w0 ((R, pcs12 (sopen s b)) :: l) w' ∧ Off [R] w w' := by
  have hRw := M.lt mS
  have hR0 := M.below.size
  have hwz := Nat.le_refl w.heap.size
  have _hML0 : ∀ p ∈ l, p.1 < w.heap.size := fun p hp => (M.rows p (mT _ hp)).2.2
  have OF := Off.refl [R] w
  go_enter Tryd.func10, Tryd.ntmps10
  go_upto_region 0 with fail
  refine wp_region_list ?_
  refine readL (.slice none 0 0) rfl (by kernel_rfl) ?_
  simp only [aP, lI, l0, lS]
  refine readL (.int .i64 0) rfl (by kernel_rfl) ?_
  simp only [aP, lI, l0, lS]
  first | show Exit.then _ _ _ _ _ | show Exit.inBlock _ _ _ _ _
  go_upto_region 1 with fail
  refine wp_region_list ?_
  refine readL (.slice sp b.length cap) rfl (by kernel_rfl) ?_
  simp only [aP, lI, l0, lS]
  refine callL rfl (fun _ => by kernel_rfl) (clone_any sp b.length cap (by omega) hcap hnil (bl b) _ (hs.off OF).1) ?_
  rintro e w1 ⟨v, rfl, hO, l⟩
  have N_1 : NewL w1 w.heap.size b v := NewF.of_own (hO.lower hwz)
  replace M := M.call l
  replace OF := OF.below l
  replace hwz := Nat.le_trans hwz l.size
  clear l hO
  obtain ⟨p1, c1, rfl, hcc_1, hnn_1, _, _⟩ := id N_1
  refine ⟨_, rfl, ?_⟩
  simp only [aP, lI, l0, lS]
  refine readL (.slice p1 b.length c1) rfl (by kernel_rfl) ?_
  simp only [aP, lI, l0, lS]
  first | show Exit.then _ _ _ _ _ | show Exit.inBlock _ _ _ _ _
  go_upto_region 2 with fail
  refine wp_region_list ?_
  refine readL (.pointer (some ⟨R, 0, none⟩)) rfl (by kernel_rfl) ?_
  simp only [aP, lI, l0, lS]
  refine readL (.pointer (some ⟨R, 0, none⟩)) rfl (by kernel_rfl) ?_
  simp only [aP, lI, l0, lS]
  refine readL (.pointer (some ⟨R, 96, none⟩)) rfl (by kernel_rfl) ?_
  simp only [aP, lI, l0, lS]
  refine readL (.bool s.has) rfl (load1 4 _ ⟨R, 96, none⟩ _ rfl rfl (fun _ => by kernel_rfl) (M.get mS 96 _ (pcs12_rest s 0))) ?_
  simp only [aP, lI, l0, lS]
  first | show Exit.then _ _ _ _ _ | show Exit.inBlock _ _ _ _ _
  cases hhas : s.has with
  | true =>
    go_upto_region 3 with fail
    refine wp_region_list ?_
    refine readL (.int .i64 0) rfl (by kernel_rfl) ?_
    simp only [aP, lI, l0, lS]
    first | show Exit.then _ _ _ _ _ | show Exit.inBlock _ _ _ _ _
    go_upto_region 4 with fail
    refine wp_region_held_drew (S := fun w' => Mm w0 ((R, pcs12 s) :: l) w') (by kernel_rfl) M.drew ?_
    clear M
    intro M
    have hdr := (Below.refl w1.heap.size w1).drew
    replace OF := OF.below hdr
    replace N_1 := NewF.below N_1 hdr
    replace hwz := Nat.le_trans hwz hdr.size
    clear hdr
    generalize w1.drew = w2 at M hwz OF N_1 ⊢
    refine readHg (i := 0) (some 15) rfl (.pointer (some ⟨R, 0, none⟩)) rfl rfl (fun _ M => (by kernel_rfl)) M ?_
    simp only [aP, lI, l0, lS]
    refine readHg (i := 1) (some 16) rfl (.pointer (some ⟨R, 0, none⟩)) rfl rfl (fun _ M => (by kernel_rfl)) M ?_
    simp only [aP, lI, l0, lS]
    refine readHg (i := 2) (some 17) rfl (.pointer (some ⟨R, 64, none⟩)) rfl rfl (fun _ M => (by kernel_rfl)) M ?_
    simp only [aP, lI, l0, lS]
    refine readHg (i := 3) (some 18) rfl (.agg (row .u8 32 s.k).toArray) rfl rfl (fun _ M => loadN 36 _ ⟨R, 64, none⟩ (row .u8 32 s.k) rfl rfl (fun _ => by kernel_rfl) (fun _ => by rw [row32]; kernel_rfl) (M.part mS 64 _ (pcs12_k s))) M ?_
    simp only [aP, lI, l0, lS]
    refine readHg (i := 4) (some 19) rfl (.pointer (some ⟨R, 0, none⟩)) rfl rfl (fun _ M => (by kernel_rfl)) M ?_
    simp only [aP, lI, l0, lS]
    refine readHg (i := 5) (some 20) rfl (.pointer (some ⟨R, 0, none⟩)) rfl rfl (fun _ M => (by kernel_rfl)) M ?_
    simp only [aP, lI, l0, lS]
    refine readHg (i := 6) (some 21) rfl (.pointer (some ⟨R, 97, none⟩)) rfl rfl (fun _ M => (by kernel_rfl)) M ?_
    simp only [aP, lI, l0, lS]
    refine readHg (i := 7) (some 22) rfl (.int .u64 ((s.n : Nat) : Int)) rfl rfl (fun _ M => load1 45 _ ⟨R, 97, none⟩ _ rfl rfl (fun _ => by kernel_rfl) (M.get mS 97 _ (pcs12_rest s 1))) M ?_
    simp only [aP, lI, l0, lS]
    refine readHg (i := 9) (some 24) rfl (.pointer (some ⟨R, 0, none⟩)) rfl rfl (fun _ M => (by kernel_rfl)) M ?_
    simp only [aP, lI, l0, lS]
    refine readHg (i := 10) (some 25) rfl (.pointer (some ⟨R, 0, none⟩)) rfl rfl (fun _ M => (by kernel_rfl)) M ?_
    simp only [aP, lI, l0, lS]
    refine readHg (i := 11) (some 26) rfl (.pointer (some ⟨R, 0, none⟩)) rfl rfl (fun _ M => (by kernel_rfl)) M ?_
    simp only [aP, lI, l0, lS]
    refine readHg (i := 12) (some 27) rfl (.slice (some ⟨R, 0, none⟩) 32 32) rfl rfl (fun _ M => cutAll 36 _ _ _ rfl rfl (by kernel_rfl)) M ?_
    simp only [aP, lI, l0, lS]
    refine readHg (i := 13) (some 28) rfl (.slice sp b.length cap) rfl rfl (fun _ M => (by kernel_rfl)) M ?_
    simp only [aP, lI, l0, lS]
    refine callH (i := 8) (some 23) rfl (by kernel_rfl) rfl rfl (fun _ => by kernel_rfl) (vnonce12_any s.n _) ?_
    rintro e w3 ⟨rfl, l⟩
    replace M := M.call l
    replace OF := OF.below l
    replace N_1 := NewF.below N_1 l
    replace hwz := Nat.le_trans hwz l.size
    clear l
    refine ⟨_, rfl, M, ?_⟩
    simp only [aP, lI, l0, lS]
    refine callH (i := 14) (some 29) rfl (by kernel_rfl) rfl rfl (fun _ => by kernel_rfl) (aopen_new s.k (snz s.n) hsw.k (snz_in s.n) (some ⟨R, 0, none⟩) 32 32 (by decide) (by decide) s.h hsw.h sp b.length cap hlen hcap (bl b) hb.bl _ (hg.mm M).a (M.srcRow mS 0 32 _ (pcs12_h s)) (hs.off OF).1) ?_
    rintro e w4 ⟨⟨v, rfl, hN⟩, l⟩
    replace M := M.call l
    rw [← soE_key hhas]
    have N_4 : NewL w4 w.heap.size (soT s b) v := by
      unfold NewL
      rw [soT_key hhas, List.length_map, List.length_range]
      exact (hN.lower hwz).congr (fun j hj => (bl_range _ _ j hj).symm)
    replace OF := OF.below l
    replace N_1 := NewF.below N_1 l
    replace hwz := Nat.le_trans hwz l.size
    clear l hN
    refine ⟨_, rfl, M, ?_⟩
    simp only [aP, lI, l0, lS]
    refine readHg (i := 15) (some 14) rfl (.tuple #[v, .int .i64 (soE s b)]) rfl rfl (fun _ M => (by kernel_rfl)) M ?_
    simp only [aP, lI, l0, lS]
    refine readHg (i := 16) (some 30) rfl (v) rfl rfl (fun _ M => (by kernel_rfl)) M ?_
    simp only [aP, lI, l0, lS]
    refine readHg (i := 17) (some 31) rfl (.int .i64 (soE s b)) rfl rfl (fun _ M => (by kernel_rfl)) M ?_
    simp only [aP, lI, l0, lS]
    refine readHg (i := 18) (some 6) rfl (v) rfl rfl (fun _ M => (by kernel_rfl)) M ?_
    simp only [aP, lI, l0, lS]
    refine readHg (i := 19) (some 7) rfl (.int .i64 (soE s b)) rfl rfl (fun _ M => (by kernel_rfl)) M ?_
    simp only [aP, lI, l0, lS]
    refine wpAnyH_done (by kernel_rfl) ?_ _
    first | show Exit.then _ _ _ _ _ | show Exit.inBlock _ _ _ _ _
    clear N_1
    by_cases hE : soE s b = 0
    · go_upto_region 5 with fail
      refine wp_region_list ?_
      refine readL (.int .i64 (soE s b)) rfl (by kernel_rfl) ?_
      simp only [aP, lI, l0, lS]
      refine readL (.bool false) rfl (neqI .i64 _ _ _ _ _ _ rfl rfl rfl false (by rw [hE]; rfl) _) ?_
      simp only [aP, lI, l0, lS]
      first | show Exit.then _ _ _ _ _ | show Exit.inBlock _ _ _ _ _
      go_upto_region 7 with fail
      refine wp_region_list ?_
      refine readL (.pointer (some ⟨R, 0, none⟩)) rfl (by kernel_rfl) ?_
      simp only [aP, lI, l0, lS]
      refine readL (.pointer (some ⟨R, 0, none⟩)) rfl (by kernel_rfl) ?_
      simp only [aP, lI, l0, lS]
      refine readL (.pointer (some ⟨R, 97, none⟩)) rfl (by kernel_rfl) ?_
      simp only [aP, lI, l0, lS]
      refine readL (.int .u64 ((s.n : Nat) : Int)) rfl (load1 45 _ ⟨R, 97, none⟩ _ rfl rfl (fun _ => by kernel_rfl) (M.get mS 97 _ (pcs12_rest s 1))) ?_
      simp only [aP, lI, l0, lS]
      refine readL (.int .u64 ((s.n + 1 : Nat) : Int)) rfl (addI .u64 _ _ _ _ _ _ _ rfl rfl rfl (by rw [IntKind.wrap_u64]; omega) _) ?_
      simp only [aP, lI, l0, lS]
      refine readL (.pointer (some ⟨R, 0, none⟩)) rfl (by kernel_rfl) ?_
      simp only [aP, lI, l0, lS]
      refine readL (.pointer (some ⟨R, 97, none⟩)) rfl (by kernel_rfl) ?_
      simp only [aP, lI, l0, lS]
      refine skipOpL rfl (storeAny (.int .u64 ((s.n + 1 : Nat) : Int)) R 97 45 _ _ rfl rfl rfl rfl rfl (M.isSome mS 97 (by rw [pcs12_len]; decide)) (M.free mS 97 (by rw [pcs12_len]; decide)) (by kernel_rfl)) ?_
      simp only [Act.put]
      replace M := M.set 97 (by rw [pcs12_len]; decide) (.int .u64 ((s.n + 1 : Nat) : Int))
      rw [show (.int .u64 ((s.n + 1 : Nat) : Int) : Value) = .int .u64 ((s.n + 1 : Nat) : Int) from rfl, pcs12_set97] at M
      replace N_4 := NewF.off N_4 ((Off.refl [R] _).set (b := R) mS 97 (.int .u64 ((s.n + 1 : Nat) : Int))) (fun b hb => by obtain rfl := List.mem_singleton.1 hb; omega)
      replace OF := OF.and1 ((Off.refl [R] _).set (b := R) mS 97 (.int .u64 ((s.n + 1 : Nat) : Int))) (.inl mS)
      generalize w4.setCell ⟨R, 97, none⟩ (.int .u64 ((s.n + 1 : Nat) : Int)) = w5 at M OF N_4 ⊢
      replace M : Mm w0 ((R, pcs12 (⟨s.h, s.c, s.k, s.has, s.n + 1⟩ : Sym)) :: l) w5 := M
      first | show Exit.then _ _ _ _ _ | show Exit.inBlock _ _ _ _ _
      go_upto_region 8 with fail
      refine wp_region_list ?_
      refine readL (.pointer (some ⟨R, 0, none⟩)) rfl (by kernel_rfl) ?_
      simp only [aP, lI, l0, lS]
      refine readL (.slice sp b.length cap) rfl (by kernel_rfl) ?_
      simp only [aP, lI, l0, lS]
      refine callL rfl (fun _ => by kernel_rfl) (vmix12_any w0 _ R _ (⟨s.h, s.c, s.k, s.has, s.n + 1⟩ : Sym) hg (SymW.mk hsw.h hsw.c hsw.k) sp cap b (by omega) hcap hnil hb M (hs.off OF)) ?_
      rintro e w6 ⟨rfl, M', o1⟩
      clear M
      have M := M'
      clear M'
      replace OF := OF.trans o1
      replace N_4 := NewF.off N_4 o1 (fun b hb => by obtain rfl := List.mem_singleton.1 hb; omega)
      clear o1
      refine ⟨_, rfl, ?_⟩
      simp only [aP, lI, l0, lS]
      first | show Exit.then _ _ _ _ _ | show Exit.inBlock _ _ _ _ _
      go_upto_region 9 with fail
      refine wp_region_list ?_
      refine readL (v) rfl (by kernel_rfl) ?_
      simp only [aP, lI, l0, lS]
      refine readL (v) rfl (by kernel_rfl) ?_
      simp only [aP, lI, l0, lS]
      refine readL (.int .i64 0) rfl (by kernel_rfl) ?_
      simp only [aP, lI, l0, lS]
      first | show Exit.then _ _ _ _ _ | show Exit.inBlock _ _ _ _ _
      rw [← smix_next s b hhas] at M
      have HS := show Hid _ from (And.intro N_4 (And.intro M OF))
      clear N_4 M OF
      go_wp2
      go_ret2
      exact ⟨⟨v, by rw [hE]; rfl, HS.out.1⟩, by unfold sopen; rw [if_pos hE]; exact HS.out.2.1, HS.out.2.2⟩
    · go_upto_region 5 with fail
      refine wp_region_list ?_
      refine readL (.int .i64 (soE s b)) rfl (by kernel_rfl) ?_
      simp only [aP, lI, l0, lS]
      refine readL (.bool true) rfl (neqI .i64 _ _ _ _ _ _ rfl rfl rfl true (by rw [bne_iff_ne]; exact hE) _) ?_
      simp only [aP, lI, l0, lS]
      first | show Exit.then _ _ _ _ _ | show Exit.inBlock _ _ _ _ _
      go_upto_region 6 with fail
      refine wp_region_list ?_
      refine readL (.int .i64 (soE s b)) rfl (by kernel_rfl) ?_
      simp only [aP, lI, l0, lS]
      refine readL (.slice none 0 0) rfl (by kernel_rfl) ?_
      simp only [aP, lI, l0, lS]
      refine readL (.int .i64 (soE s b)) rfl (by kernel_rfl) ?_
      simp only [aP, lI, l0, lS]
      first | show Exit.then _ _ _ _ _ | show Exit.inBlock _ _ _ _ _
      clear N_4
      have N_e : NewL w4 w.heap.size (soT s b) (.slice none 0 0) := by rw [soT_err hE]; exact NewF.nil _ _ _
      have HS := show Hid _ from (And.intro N_e (And.intro M OF))
      clear N_e M OF
      go_wp2
      go_ret2
      exact ⟨⟨_, rfl, HS.out.1⟩, by unfold sopen; rw [if_neg hE]; exact HS.out.2.1, HS.out.2.2⟩
  | false =>
    have hso : soT s b = b := by unfold soT; rw [hhas]; rfl
    have hsn : snext s = s := by unfold snext; rw [hhas]; rfl
    have hE : soE s b = 0 := by unfold soE; rw [hhas]; rfl
    go_upto_region 8 with fail
    refine wp_region_list ?_
    refine readL (.pointer (some ⟨R, 0, none⟩)) rfl (by kernel_rfl) ?_
    simp only [aP, lI, l0, lS]
    refine readL (.slice sp b.length cap) rfl (by kernel_rfl) ?_
    simp only [aP, lI, l0, lS]
    refine callL rfl (fun _ => by kernel_rfl) (vmix12_any w0 _ R _ s hg hsw sp cap b (by omega) hcap hnil hb M (hs.off OF)) ?_
    rintro e w7 ⟨rfl, M', o1⟩
    clear M
    have M := M'
    clear M'
    replace OF := OF.trans o1
    replace N_1 := NewF.off N_1 o1 (fun b hb => by obtain rfl := List.mem_singleton.1 hb; omega)
    clear o1
    refine ⟨_, rfl, ?_⟩
    simp only [aP, lI, l0, lS]
    first | show Exit.then _ _ _ _ _ | show Exit.inBlock _ _ _ _ _
    go_upto_region 9 with fail
    refine wp_region_list ?_
    refine readL (.slice p1 b.length c1) rfl (by kernel_rfl) ?_
    simp only [aP, lI, l0, lS]
    refine readL (.slice p1 b.length c1) rfl (by kernel_rfl) ?_
    simp only [aP, lI, l0, lS]
    refine readL (.int .i64 0) rfl (by kernel_rfl) ?_
    simp only [aP, lI, l0, lS]
    first | show Exit.then _ _ _ _ _ | show Exit.inBlock _ _ _ _ _
    have hss : sopen s b = smix s b := by unfold sopen; rw [if_pos hE, hsn]
    have HS := show Hid _ from (And.intro N_1 (And.intro M OF))
    clear N_1 M OF
    go_wp2
    go_ret2
    exact ⟨⟨.slice p1 b.length c1, by rw [hE]; rfl, by rw [hso]; exact HS.out.1⟩, by rw [hss]; exact HS.out.2.1, HS.out.2.2⟩
theorem vnew12_any (w0 w : World) (l : List (Nat × List Value)) (hg : SGlob w0) (M : Mm w0 l w) :
    Calls Tryd.prog 6 #[] w fun e w' => ∃ Q, e = .returned (.pointer (some ⟨Q, 0, none⟩)) ∧ w.heap.size ≤ Q ∧ Mm w0 ((Q, pcs12 snew) :: l) w' ∧ Below w.heap.size w w' := by
  obtain ⟨f, hf⟩ : ∃ f, f = bhash 33 (bl snoise) := ⟨_, rfl⟩
  rw [show snew = sbeg f by rw [hf]; rfl]
  have OF := Off.refl [] w
  have hb0 := M.below
  go_enter Tryd.func6, Tryd.ntmps6
  go_upto_region 0 with fail
  refine wp_region_list ?_
  refine readL (.pointer none) rfl (by kernel_rfl) ?_
  simp only [aP, lI, l0]
  first | show Exit.then _ _ _ _ _ | show Exit.inBlock _ _ _ _ _
  go_upto_region 1 with fail
  refine wp_region_list ?_
  refine actL (w' := w.alloc (.cells (row .u8 33 (bl snoise)).toArray 5)) (.slice (some ⟨w.heap.size, 0, none⟩) 33 33) rfl (by kernel_rfl) ?_
  simp only [aP, lI, l0, lS]
  refine actL (.slice (some ⟨w.heap.size, 0, none⟩) 33 33) rfl (conv_const 27 5 (row .u8 33 (bl snoise)).toArray 33 33 _ rfl rfl Tryd.underlying27 Tryd.underlying5) ?_
  simp only [aP, lI, l0, lS]
  have hsrc := (has_marked w .u8 33 (bl snoise) 5).src0
  have hlb := (Below.refl w.heap.size w).alloc (Nat.le_refl _) (.cells (row .u8 33 (bl snoise)).toArray 5 ((row .u8 33 (bl snoise)).toArray.size, (row .u8 33 (bl snoise)).toArray.size + 1))
  replace M := M.call hlb
  replace OF := OF.below hlb
  clear hlb
  generalize w.alloc (.cells (row .u8 33 (bl snoise)).toArray 5 ((row .u8 33 (bl snoise)).toArray.size, (row .u8 33 (bl snoise)).toArray.size + 1)) = w1 at M hsrc OF ⊢
  refine callL rfl (fun _ => by kernel_rfl) (bhash_any (some ⟨w.heap.size, 0, none⟩) 33 33 (by decide) (by decide) (fun e => by cases e) (bl snoise) snoise_in.bl _ (hg.mm M).b hsrc) ?_
  rintro e w2 ⟨rfl, l1⟩
  replace M := M.call l1
  replace OF := OF.below l1
  clear l1 hsrc
  rw [← hf]
  refine ⟨_, rfl, ?_⟩
  simp only [aP, lI, l0, lS]
  have hz0_ := OF.size
  refine actL (w' := w2.alloc (.cells zu8_32 36)) (.pointer (some ⟨w2.heap.size, 0, none⟩)) rfl (by kernel_rfl) ?_
  simp only [aP, lI, l0, lS]
  have hlb := (Below.refl w2.heap.size w2).alloc (Nat.le_refl _) (.cells zu8_32 36)
  replace OF := OF.below hlb
  clear hlb
  have hB_B3 : w0.heap.size ≤ w2.heap.size := M.below.size
  replace M := M.box zu8_32 36 w2.heap.size rfl
  generalize w2.alloc (.cells zu8_32 36) = w3 at M OF ⊢
  generalize eB : w2.heap.size = B3 at M hB_B3  ⊢
  have hE_B3 : w2.heap.size ≤ B3 := Nat.le_of_eq eB
  have hF_B3 : B3 ≤ w2.heap.size := Nat.le_of_eq eB.symm
  clear eB
  replace M : Mm w0 ((B3, [.int .u8 0, .int .u8 0, .int .u8 0, .int .u8 0, .int .u8 0, .int .u8 0, .int .u8 0, .int .u8 0, .int .u8 0, .int .u8 0, .int .u8 0, .int .u8 0, .int .u8 0, .int .u8 0, .int .u8 0, .int .u8 0, .int .u8 0, .int .u8 0, .int .u8 0, .int .u8 0, .int .u8 0, .int .u8 0, .int .u8 0, .int .u8 0, .int .u8 0, .int .u8 0, .int .u8 0, .int .u8 0, .int .u8 0, .int .u8 0, .int .u8 0, .int .u8 0]) :: l) w3 := M
  have hW_B3 : w.heap.size ≤ B3 := by omega
  clear hz0_
  refine skipOpL rfl (storeP (row .u8 32 f) B3 0 36 _ _ rfl rfl rfl (M.thereP mS 0 32 (Nat.le_of_ble_eq_true rfl)) (by rw [List.size_toArray, row32]; kernel_rfl) (row_one .u8 32 _)) ?_
  simp only [Act.put]
  replace M := M.setAll (row .u8 32 f) (by rw [row32]; rfl)
  replace OF := OF.and1 ((Off.refl [B3] _).setAll mS 0 (row .u8 32 f)) (.inr (by omega))
  generalize w3.setCells B3 0 (row .u8 32 f) = w4 at M OF ⊢
  first | show Exit.then _ _ _ _ _ | show Exit.inBlock _ _ _ _ _
  go_upto_region 2 with fail
  refine wp_region_list ?_
  refine readL (.agg (row .u8 32 f).toArray) rfl (loadN 36 _ ⟨B3, 0, none⟩ (row .u8 32 f) rfl rfl (fun _ => by kernel_rfl) (fun _ => by rw [row32]; kernel_rfl) (M.part mS 0 _ (by rw [List.drop_zero, List.take_length]))) ?_
  simp only [aP, lI, l0, lS]
  refine readL (.agg (row .u8 32 f).toArray) rfl (loadN 36 _ ⟨B3, 0, none⟩ (row .u8 32 f) rfl rfl (fun _ => by kernel_rfl) (fun _ => by rw [row32]; kernel_rfl) (M.part mS 0 _ (by rw [List.drop_zero, List.take_length]))) ?_
  simp only [aP, lI, l0, lS]
  refine readL (.agg (pcs12 (sbeg f)).toArray) rfl (by kernel_rfl) ?_
  simp only [aP, lI, l0, lS]
  refine actL (w' := w4.alloc (.cells (pcs12 (sbeg f)).toArray 47)) (.pointer (some ⟨w4.heap.size, 0, none⟩)) rfl (by kernel_rfl) ?_
  simp only [aP, lI, l0, lS]
  have hW_B5 : w.heap.size ≤ w4.heap.size := OF.size
  replace OF := OF.below ((Below.refl w4.heap.size w4).alloc (Nat.le_refl _) (.cells (pcs12 (sbeg f)).toArray 47))
  replace M := M.box (pcs12 (sbeg f)).toArray 47 w4.heap.size rfl
  generalize w4.alloc (.cells (pcs12 (sbeg f)).toArray 47) = w5 at M OF ⊢
  generalize w4.heap.size = B5 at M hW_B5 ⊢
  replace M : Mm w0 ((B5, pcs12 (sbeg f)) :: (B3, row .u8 32 f) :: l) w5 := M
  refine readL (.pointer (some ⟨B5, 0, none⟩)) rfl (by kernel_rfl) ?_
  simp only [aP, lI, l0]
  first | show Exit.then _ _ _ _ _ | show Exit.inBlock _ _ _ _ _
  replace M := M.drop2
  have hbel : Below w.heap.size w w5 := ⟨M.below.os.trans hb0.os.symm, M.below.tape.trans hb0.tape.symm, M.below.output.trans hb0.output.symm, OF.size, fun b hb => OF.blk b hb (fun h => by cases h)⟩
  have HS := show Hid _ from (And.intro hW_B5 (And.intro M hbel))
  clear M OF hbel hW_B5
  go_wp2
  go_ret
  exact ⟨_, rfl, HS.out⟩
theorem vsym_any : SymOK pcs12 :=
  ⟨fun w0 w l hg M => vnew12_any w0 w l hg M, fun w0 w R l s _ M => vhash12_any w0 w R l s M, fun w0 w R l s hg hsw sp cap b h1 h2 h3 h4 M hs => vmix12_any w0 w R l s hg hsw sp cap b h1 h2 h3 h4 M hs, fun w0 w R l s hg hsw sp cap b h1 h2 h3 h4 M hs => vkey12_any w0 w R l s hg hsw sp cap b h1 h2 h3 h4 M hs,
   fun w0 w R l s hg hsw hn sp cap b h1 h2 h3 h4 M hs => vseal12_any w0 w R l s hg hsw hn sp cap b h1 h2 h3 h4 M hs, fun w0 w R l s hg hsw hn sp cap b h1 h2 h3 h4 M hs => vopen12_any w0 w R l s hg hsw hn sp cap b h1 h2 h3 h4 M hs, fun w0 w R l s hg hsw M => vsplit12_any w0 w R l s hg hsw M⟩
section
open Go.ChangeShapes Go.WideShapes Go.ChangeAt Go.WideMaps Go.WideElems Go.RowKit
def intAt : Option Value → Int
  | some (.int _ n) => n
  | _ => 0
def litR {H : Type} (k : IntKind) (n : Nat) (f : Nat → Int) : DataW H := .agg ((List.range n).map fun j => .lit (.int k (f j)))
section
variable {H : Type} {enc : TypeId × Value → H} {P : Program} {w : World} {base : Nat} {sp : Nat → Bool} {held : Bool}
theorem open_row {t e : TypeId} {n : Nat} {k : IntKind} (hu : P.underlying t = some (.array n e)) (he : P.underlying e = some (.int k)) (hct : P.cellsOf t = n) (hce : P.cellsOf e = 1) {fuel : Nat} {cs : List Value} {x : DataW H × List MemPlace}
    (h : DataW.trod enc P w base sp held fuel t cs = some x) : ∃ f : Nat → Int, (∀ j, j < n → (Lit.int k (f j)).wf = true) ∧ cs = row k n f ∧ x = (litR k n f, []) := by
  obtain ⟨xs, m, _, hx, hl, hn, hel⟩ := DataW.trod_array hu h
  rw [hct] at hl
  have hcell : ∀ i, i < n → ∃ v, cs[i]? = some (.int k v) ∧ xs[i]? = some (.lit (.int k v), []) ∧ (Lit.int k v).wf = true := by
    intro i hi
    have e1 := hel i hi
    rw [hce, Nat.mul_one] at e1
    have hxi : i < xs.length := by omega
    rw [List.getElem?_eq_getElem hxi] at e1
    obtain ⟨v, e2, e3, e4⟩ := DataW.trod_int he e1
    refine ⟨v, ?_, by rw [List.getElem?_eq_getElem hxi, e3], e4⟩
    have hci : i < cs.length := by omega
    have e5 : (cs.drop i).take 1 = [cs[i]] := by rw [List.drop_eq_getElem_cons hci, List.take_succ_cons, List.take_zero]
    rw [e5] at e2
    rw [List.getElem?_eq_getElem hci]
    simpa using e2
  refine ⟨fun i => intAt cs[i]?, fun i hi => ?_, ?_, ?_⟩
  · obtain ⟨v, e1, _, e3⟩ := hcell i hi
    dsimp only
    rw [e1]; exact e3
  · refine List.ext_getElem? fun i => ?_
    by_cases hi : i < n
    · obtain ⟨v, e1, _, _⟩ := hcell i hi
      rw [row_get k n _ i hi, e1]; rfl
    · rw [List.getElem?_eq_none (by omega), List.getElem?_eq_none (by rw [row_length]; omega)]
  · rw [hx]
    congr 1
    · unfold litR
      congr 1
      refine List.ext_getElem? fun i => ?_
      by_cases hi : i < n
      · obtain ⟨v, e1, e2, _⟩ := hcell i hi
        rw [List.getElem?_map, e2, List.getElem?_map, List.getElem?_range hi]
        simp only [Option.map_some]
        rw [e1]
        rfl
      · rw [List.getElem?_eq_none (by simp [hn]; omega), List.getElem?_eq_none (by simp; omega)]
    · refine List.flatMap_eq_nil_iff.2 fun y hy => ?_
      obtain ⟨i, hi⟩ := List.mem_iff_getElem?.1 hy
      have hin : i < n := by have := (List.getElem?_eq_some_iff.1 hi).1; omega
      obtain ⟨v, _, e2, _⟩ := hcell i hin
      rw [e2] at hi
      rw [← Option.some.inj hi]
end
theorem wf_u8 {n : Int} : (Lit.int .u8 n).wf = true ↔ 0 ≤ n ∧ n < 256 := by
  simp [Lit.wf, IntKind.min, IntKind.max, IntKind.signed, IntKind.bits]
  omega
theorem wf_i64 {n : Int} : (Lit.int .i64 n).wf = true ↔ -9223372036854775808 ≤ n ∧ n ≤ 9223372036854775807 := by
  simp [Lit.wf, IntKind.min, IntKind.max, IntKind.signed, IntKind.bits]
theorem litR_inj {H : Type} {k : IntKind} {n : Nat} {f g : Nat → Int} (h : (litR k n f : DataW H) = litR k n g) (j : Nat) (hj : j < n) : f j = g j := by
  unfold litR at h
  injection h with h
  have e := congrArg (fun l => l[j]?) h
  simp only [List.getElem?_map, List.getElem?_range hj, Option.map_some, Option.some.injEq] at e
  injection e with e
  injection e
end
section
open Go.ChangeShapes Go.WideShapes Go.ChangeAt Go.WideMaps Go.WideElems Go.RowKit
theorem own : ownKnob Tryd.prog.godebug = none := by kernel_rfl
theorem cellsByte : Tryd.prog.cellsOf 5 = 1 := by kernel_rfl
theorem laidOut : laidOutB Tryd.prog = true := by kernel_rfl
structure Fit (H : Type) (Q : TypeId → DataW H → Prop) (m : Nat) : Prop where
  bytes : ∀ a b, Q 27 (.slice a b) → a.length ≤ m
  rowOp : ∀ a b, Q 22 (.slice a b) → a.length ≤ m ∧ ∀ d ∈ a, Q 29 d
  elOp : ∀ l, Q 29 (.agg l) → (∀ d, l[1]? = some d → Q 27 d)
section
variable {H : Type} {enc : TypeId × Value → H} {W : World} {Q : TypeId → DataW H → Prop} {m : Nat}
theorem field_of {fs : Array Field} {l : List (TypeId × Nat)} (h : fs.toList.map (fun f => (f.type, f.offset)) = l) (i : Nat) (t : TypeId) (o : Nat) (hi : l[i]? = some (t, o)) : ∃ f, fs[i]? = some f ∧ f.type = t ∧ f.offset = o := by
  rw [← h, List.getElem?_map] at hi
  obtain ⟨f, h1, h2⟩ := Option.map_eq_some_iff.1 hi
  injection h2 with h2 h3
  exact ⟨f, by simpa using h1, h2, h3⟩
theorem open_octets (F : Fit H Q m) {fuel : Nat} {cs : List Value} {x : DataW H × List MemPlace} (h : DataW.trod enc Tryd.prog W 0 (fun _ => true) true fuel 27 cs = some x) (hq : Q 27 x.1) :
    ∃ (sp : Option Addr) (cap : Nat) (bs : List Int), cs = [.slice sp bs.length cap] ∧ Src W sp bs.length (bl bs) ∧ bs.length ≤ cap ∧ (sp = none → cap = 0) ∧ bs.length ≤ m ∧ Byts bs := by
  rcases open_ints Tryd.underlying27 Tryd.underlying5 cellsByte h with ⟨rfl, rfl⟩ | ⟨ad, len, cap, zs, rfl, _, hle, hmax, hall, rfl, hcell, hwf⟩
  · exact ⟨none, 0, [], rfl, fun j hj => absurd hj (Nat.not_lt_zero j), Nat.le_refl _, fun _ => rfl, Nat.zero_le _, fun x hx => (by cases hx)⟩
  · simp only [if_true] at hall
    have hm := F.bytes _ _ hq
    simp only [lits, List.length_map, List.length_take] at hm
    have hl : (zs.take len).length = len := by rw [List.length_take]; omega
    refine ⟨some ad, cap, zs.take len, by rw [hl], fun j hj => ⟨ad, rfl, ?_⟩, by rw [hl]; exact hle, fun e => (by cases e), by rw [hl]; omega, fun y hy => wf_u8.1 (hwf y (List.mem_of_mem_take hy))⟩
    rw [hl] at hj
    rw [bl_take _ _ _ hj]
    exact hcell j (by omega)
theorem i64_of {n : Int} (h : (Lit.int .i64 n).wf = true) : i64 n := by have := wf_i64.1 h; unfold i64; omega
theorem fieldsOp : (Tryd.prog.fieldsOf 29).toList.map (fun f => (f.type, f.offset)) = [(3, 0), (27, 1)] := by kernel_rfl
theorem open_Op (F : Fit H Q m) {fuel : Nat} {cs : List Value} {x : DataW H × List MemPlace} (h : DataW.trod enc Tryd.prog W 0 (fun _ => true) true fuel 29 cs = some x) (hq : Q 29 x.1) :
    ∃ (v : Opv) (bp : Option Addr) (bc : Nat), cs = Opc v bp bc ∧ OpV W m v bp bc := by
  obtain ⟨xs, n, _, hx, hl, hlen, hf⟩ := DataW.trod_struct (fs := Tryd.prog.fieldsOf 29) (by kernel_rfl) h
  have hn : Tryd.prog.cellsOf 29 = 2 := by kernel_rfl
  have hc0 : Tryd.prog.cellsOf 27 = 1 := by kernel_rfl
  have hc1 : Tryd.prog.cellsOf 3 = 1 := by kernel_rfl
  have hs : xs.length = 2 := by rw [hlen]; kernel_rfl
  rw [hn] at hl
  rw [hx] at hq
  have hq2 := F.elOp _ hq
  match cs, hl with
  | [c0, c1], _ =>
    obtain ⟨f0, e0, t0, o0⟩ := field_of fieldsOp 0 3 0 rfl
    have g0 := hf 0 f0 e0
    rw [t0, o0, hc1, List.getElem?_eq_getElem (by omega)] at g0
    obtain ⟨f1, e1, t1, o1⟩ := field_of fieldsOp 1 27 1 rfl
    have g1 := hf 1 f1 e1
    rw [t1, o1, hc0, List.getElem?_eq_getElem (by omega)] at g1
    obtain ⟨x_k, q0, _, w0⟩ := DataW.trod_int Tryd.underlying3 g0
    obtain ⟨bp, bc, x_b, q1, b11, b12, b13, b14, b15⟩ := open_octets F g1 (hq2 _ (by rw [List.getElem?_map, List.getElem?_eq_getElem (show 1 < xs.length by omega)]; rfl))
    simp at q0 q1
    exact ⟨⟨x_k, x_b⟩, bp, bc, by rw [q0, q1]; rfl, ⟨i64_of w0, b11, b12, b13, b14, b15⟩⟩
theorem open_Ops (F : Fit H Q m) {fuel : Nat} {cs : List Value} {x : DataW H × List MemPlace} (h : DataW.trod enc Tryd.prog W 0 (fun _ => true) true fuel 22 cs = some x) (hq : Q 22 x.1) :
    ∃ (sp : Option Addr) (cap : Nat) (l : List Opv), cs = [.slice sp l.length cap] ∧ OpsIn W m sp l ∧ l.length ≤ cap ∧ (sp = none → cap = 0) ∧ l.length ≤ m := by
  rcases DataW.trod_slice Tryd.underlying22 h with ⟨rfl, rfl⟩ | ⟨a, len, cap, elems, rest, n, _, rfl, rfl, hb, hl, hm, hlen, hel, _, _⟩
  · exact ⟨none, 0, [], rfl, fun j v hv => (by simp at hv), Nat.le_refl _, fun _ => rfl, Nat.zero_le _⟩
  · have hc : Tryd.prog.cellsOf 29 = 2 := by kernel_rfl
    have hq2 := F.rowOp _ _ hq
    rw [List.length_map] at hq2
    have key : ∀ k, k ≤ len → ∃ l : List Opv, l.length = k ∧ ∀ j v, l[j]? = some v → ∃ ad bp bc, (some a : Option Addr) = some ad ∧ (∀ k x, (Opc v bp bc)[k]? = some x → W.cell? ((ad.add (j * 2)).add k) = some x) ∧ OpV W m v bp bc := by
      intro k
      induction k with
      | zero => exact fun _ => ⟨[], rfl, fun j f hj => by simp at hj⟩
      | succ k ih =>
        intro hk
        obtain ⟨l, h1, h2⟩ := ih (by omega)
        have h3 := hel k (by omega)
        rw [hc, List.getElem?_eq_getElem (by omega)] at h3
        obtain ⟨cs, h4, h5⟩ := Option.bind_eq_some_iff.1 h3
        obtain ⟨v, bp, bc, rfl, hv⟩ := open_Op F h5 (hq2.2 _ (List.mem_map_of_mem (List.getElem_mem (by omega))))
        obtain ⟨_, _, h6⟩ := World.cells?_some h4
        refine ⟨l ++ [v], by rw [List.length_append, h1]; rfl, fun j g hj => ?_⟩
        by_cases hjk : j < l.length
        · rw [List.getElem?_append_left hjk] at hj
          exact h2 j g hj
        · rw [List.getElem?_append_right (by omega)] at hj
          have hj0 : j = k := by
            rcases Nat.lt_or_ge (j - l.length) 1 with h' | h'
            · omega
            · rw [List.getElem?_eq_none (by simpa using h')] at hj; cases hj
          subst hj0
          rw [h1, Nat.sub_self] at hj
          injection hj with hj
          subst hj
          refine ⟨a, bp, bc, rfl, fun i v hiv => ?_, hv⟩
          have hi : i < 2 := by
            rcases Nat.lt_or_ge i 2 with h' | h'
            · exact h'
            · rw [List.getElem?_eq_none (by exact h')] at hiv; cases hiv
          rw [h6 i hi]
          exact hiv
    obtain ⟨l, h1, h2⟩ := key len (Nat.le_refl _)
    exact ⟨some a, cap, l, by rw [h1], h2, by omega, fun e => (by cases e), by omega⟩
end
def Wok {H : Type} (t : TypeId) (d : DataW H) : Prop := ∀ n ∈ d.weights Tryd.prog t, n ≤ reachBytes
theorem weights_all {H : Type} {P : Program} {e : TypeId} {d : DataW H} {n : Nat} (hn : n ∈ d.weights P e) : ∀ {l : List (DataW H)}, d ∈ l → n ∈ DataW.weightsAll P e l
  | x :: l, h => by
    simp only [DataW.weightsAll, List.mem_append]
    rcases List.mem_cons.1 h with rfl | h
    · exact .inl hn
    · exact .inr (weights_all hn h)
theorem fitWok (H : Type) : Fit H Wok 140737488351232 where
  bytes a b h := by
    have h1 := h ((a.length + b.length) * Tryd.prog.bytesOf 5) (by simp only [DataW.weights, Tryd.underlying27]; exact mS)
    rw [show Tryd.prog.bytesOf 5 = 1 by kernel_rfl] at h1
    simp only [reachBytes] at h1
    omega
  rowOp a b h := by
    have h1 := h ((a.length + b.length) * Tryd.prog.bytesOf 29) (by simp only [DataW.weights, Tryd.underlying22]; exact mS)
    rw [show Tryd.prog.bytesOf 29 = 32 by kernel_rfl] at h1
    simp only [reachBytes] at h1
    refine ⟨by omega, fun d hd n hn => h n ?_⟩
    simp only [DataW.weights, Tryd.underlying22]
    exact mT _ (List.mem_append_left _ (weights_all hn hd))
  elOp l h := by
    have hu : Tryd.prog.underlying 29 = some (.struct (Tryd.prog.fieldsOf 29)) := by kernel_rfl
    have ht : (Tryd.prog.fieldsOf 29).toList.map (·.type) = [3, 27] := by kernel_rfl
    have e : ∀ n ∈ DataW.weightsEach Tryd.prog [3, 27] l, n ≤ reachBytes := fun n hn => h n (by simp only [DataW.weights, hu, ht]; exact hn)
    exact fun d hd n hn => e n (DataW.weights_mem_each (j := 1) rfl hd n hn)
section
variable {H : Type} {enc : TypeId × Value → H} {W : World} {Q : TypeId → DataW H → Prop} {m : Nat}
theorem again {t : TypeId} (hr : Tryd.prog.readableRec t = true) (hrow : t < Tryd.prog.types.size) {v : Value} {d : DataW H} {p : List MemPlace} (h : DataW.Trod enc Tryd.prog W 0 (fun _ => true) true t v d p) (W' : World) (hb : Below W.heap.size W W') : DataW.Trod enc Tryd.prog W' 0 (fun b => decide (b < W.heap.size)) true t v d p :=
  hb.trod laidOut hr hrow h (by obtain ⟨fuel, hf⟩ := h; exact fun x hx => DataW.trod_lt _ _ _ _ hf x hx)
theorem arg_Ops (F : Fit H Q m) {r : Reach} {b0 : Nat} {v : Value} {d : DataW H} {p : List MemPlace} (hv : Value.okWide Tryd.prog W r b0 22 v) (h : DataW.Trod enc Tryd.prog W 0 (fun _ => true) true 22 v d p) (hq : Q 22 d) :
    ∃ (sp : Option Addr) (cap : Nat) (l : List Opv), v = .slice sp l.length cap ∧ OpsIn W m sp l ∧ l.length ≤ cap ∧ (sp = none → cap = 0) ∧ l.length ≤ m := by
  obtain ⟨sp, len, cap, rfl⟩ := okWide_slice Tryd.underlying22 hv
  obtain ⟨fuel, hf⟩ := h
  obtain ⟨sp', cap', l, h1, h2⟩ := open_Ops F hf hq
  simp [Value.cells] at h1
  obtain ⟨rfl, rfl, rfl⟩ := h1
  exact ⟨_, _, l, rfl, h2⟩
end
end
section
open Go.ChangeShapes Go.WideShapes Go.ChangeAt Go.WideMaps Go.WideElems Go.RowKit
theorem open_table {H : Type} {enc : TypeId × Value → H} {P : Program} {w : World} {base : Nat} {sp : Nat → Bool} {held : Bool} {fuel : Nat} {cs : List Value} {q : List MemPlace} {d : DataW H} {t r e : TypeId} {k : IntKind} {n m : Nat} (hu : P.underlying t = some (.array n r)) (hr : P.underlying r = some (.array m e)) (he : P.underlying e = some (.int k)) (cr : P.cellsOf r = m) (ce : P.cellsOf e = 1) (hm : 0 < m)
    (g : Nat → Int) (hd : d = .agg ((List.range n).map fun i => litR k m (fun j => g (m * i + j)))) (h : DataW.trod enc P w base sp held fuel t cs = some (d, q)) : ∀ j, j < n * m → cs[j]? = some (.int k (g j)) := by
  obtain ⟨xs, _, _, hx, _, hn, hel⟩ := DataW.trod_array hu h
  intro j hj
  have hi : j / m < n := (Nat.div_lt_iff_lt_mul hm).2 hj
  have hjm : j % m < m := Nat.mod_lt _ hm
  have hdm : j / m * m + j % m = j := Nat.div_add_mod' j m
  have e1 := hel (j / m) hi
  rw [cr] at e1
  have hxi : j / m < xs.length := by rw [hn]; exact hi
  rw [List.getElem?_eq_getElem hxi] at e1
  obtain ⟨f, _, e2, e3⟩ := open_row hr he cr ce e1
  simp only [Prod.mk.injEq] at hx
  rw [hd] at hx
  have hx1 : ((List.range n).map fun i => (litR k m (fun j => g (m * i + j)) : DataW H)) = xs.map (·.1) := by
    have := hx.1
    injection this
  have e6 : (xs.map (·.1))[j / m]? = some (litR k m f) := by rw [List.getElem?_map, List.getElem?_eq_getElem hxi, e3]; rfl
  rw [← hx1, List.getElem?_map, List.getElem?_range hi] at e6
  simp only [Option.map_some, Option.some.injEq] at e6
  have e7 := litR_inj e6 (j % m) hjm
  have e8 : ((cs.drop (j / m * m)).take m)[j % m]? = some (.int k (f (j % m))) := by rw [e2]; exact row_get _ _ _ _ hjm
  rw [List.getElem?_take, if_pos hjm, List.getElem?_drop, hdm] at e8
  rw [e8, ← e7, Nat.mul_comm m, hdm]
end
section
open Go.ChangeShapes Go.WideShapes Go.ChangeAt Go.WideMaps Go.WideElems Go.RowKit
theorem cDS0 : Tryd.prog.cellsOf 63 = 8 := by kernel_rfl
theorem cDS1 : Tryd.prog.cellsOf 62 = 1 := by kernel_rfl
theorem cDS3 : Tryd.prog.cellsOf 5 = 1 := by kernel_rfl
theorem cDS4 : Tryd.prog.cellsOf 41 = 16 := by kernel_rfl
theorem cDS6 : Tryd.prog.cellsOf 90 = 4 := by kernel_rfl
theorem cDS7 : Tryd.prog.cellsOf 104 = 4 := by kernel_rfl
theorem cDS9 : Tryd.prog.cellsOf 3 = 1 := by kernel_rfl
theorem cDS10 : Tryd.prog.cellsOf 105 = 4 := by kernel_rfl
theorem cDS11 : Tryd.prog.cellsOf 42 = 16 := by kernel_rfl
theorem cDS12 : Tryd.prog.cellsOf 98 = 3 := by kernel_rfl
theorem cDS13 : Tryd.prog.cellsOf 45 = 1 := by kernel_rfl
theorem gDS0 : Tryd.prog.globalNamed "sheave/blake.iv" = some 0 := by kernel_rfl
theorem tDS0 : (Tryd.prog.globals[0]?).map (·.type) = some 63 := by kernel_rfl
theorem gDS1 : Tryd.prog.globalNamed "sheave/blake.rows" = some 2 := by kernel_rfl
theorem tDS1 : (Tryd.prog.globals[2]?).map (·.type) = some 89 := by kernel_rfl
theorem gDS2 : Tryd.prog.globalNamed "sheave/blake.places" = some 1 := by kernel_rfl
theorem tDS2 : (Tryd.prog.globals[1]?).map (·.type) = some 91 := by kernel_rfl
theorem gDS3 : Tryd.prog.globalNamed "sheave/chacha.first" = some 3 := by kernel_rfl
theorem tDS3 : (Tryd.prog.globals[3]?).map (·.type) = some 104 := by kernel_rfl
theorem gDS4 : Tryd.prog.globalNamed "sheave/chacha.places" = some 4 := by kernel_rfl
theorem tDS4 : (Tryd.prog.globals[4]?).map (·.type) = some 106 := by kernel_rfl
theorem gDS5 : Tryd.prog.globalNamed "sheave/clamp.kept" = some 5 := by kernel_rfl
theorem tDS5 : (Tryd.prog.globals[5]?).map (·.type) = some 42 := by kernel_rfl
theorem gDS6 : Tryd.prog.globalNamed "sheave/clamp.modulus" = some 6 := by kernel_rfl
theorem tDS6 : (Tryd.prog.globals[6]?).map (·.type) = some 98 := by kernel_rfl
def laidS {H : Type} : List (String × DataW H) := [("sheave/blake.iv", Rows.laid_sheave_blake_iv), ("sheave/blake.rows", Rows.laid_sheave_blake_rows), ("sheave/blake.places", Rows.laid_sheave_blake_places), ("sheave/chacha.first", Rows.laid_sheave_chacha_first), ("sheave/chacha.places", Rows.laid_sheave_chacha_places), ("sheave/clamp.kept", Rows.laid_sheave_clamp_kept), ("sheave/clamp.modulus", Rows.laid_sheave_clamp_modulus)]
theorem glob_of_laidS {W : World} (h : laidMetH Tryd.prog laidS W) : SGlob W := by
  rw [MakeChecks.laidMetH_plain _ _ _ (by kernel_rfl)] at h
  obtain ⟨ps, ⟨g0, t0, cs0, f0, p0, q0, hg0, ht0, hv0, hd0, ⟨g1, t1, cs1, f1, p1, q1, hg1, ht1, hv1, hd1, ⟨g2, t2, cs2, f2, p2, q2, hg2, ht2, hv2, hd2, ⟨g3, t3, cs3, f3, p3, q3, hg3, ht3, hv3, hd3, ⟨g4, t4, cs4, f4, p4, q4, hg4, ht4, hv4, hd4, ⟨g5, t5, cs5, f5, p5, q5, hg5, ht5, hv5, hd5, ⟨g6, t6, cs6, f6, p6, q6, hg6, ht6, hv6, hd6, _, _⟩, _⟩, _⟩, _⟩, _⟩, _⟩, _⟩, _, _⟩ := h
  obtain rfl := Option.some.inj (gDS0.symm.trans hg0)
  obtain rfl := Option.some.inj (tDS0.symm.trans ht0)
  obtain rfl := Option.some.inj (gDS1.symm.trans hg1)
  obtain rfl := Option.some.inj (tDS1.symm.trans ht1)
  obtain rfl := Option.some.inj (gDS2.symm.trans hg2)
  obtain rfl := Option.some.inj (tDS2.symm.trans ht2)
  obtain rfl := Option.some.inj (gDS3.symm.trans hg3)
  obtain rfl := Option.some.inj (tDS3.symm.trans ht3)
  obtain rfl := Option.some.inj (gDS4.symm.trans hg4)
  obtain rfl := Option.some.inj (tDS4.symm.trans ht4)
  obtain rfl := Option.some.inj (gDS5.symm.trans hg5)
  obtain rfl := Option.some.inj (tDS5.symm.trans ht5)
  obtain rfl := Option.some.inj (gDS6.symm.trans hg6)
  obtain rfl := Option.some.inj (tDS6.symm.trans ht6)
  obtain ⟨F0, _, eA0, eB0⟩ := open_row Tryd.underlying63 Tryd.underlying62 cDS0 cDS1 hd0
  simp only [Prod.mk.injEq] at eB0
  have eF0 := litR_inj (show (litR .u32 8 iv : DataW _) = litR .u32 8 F0 from eB0.1)
  have c_blake_iv : ∀ j, j < 8 → W.cell? ⟨0, j, none⟩ = some (.int .u32 (iv j)) := fun j hj => by
    rw [World.var?_cell hg0 hv0 j, eF0 j hj]
    have := row_get .u32 8 F0 j hj
    rw [← eA0] at this
    simpa using this
  have s0 := World.block_lt_of_cell? W _ (c_blake_iv 0 (by decide))
  have b1 := open_table (n := 10) (m := 16) Tryd.underlying89 Tryd.underlying41 Tryd.underlying5 cDS4 cDS3 (by decide) (fun j => ((sgL.getD j 0 : Nat) : Int)) (by rfl) hd1
  have c_blake_rows : ∀ j, j < 160 → W.cell? ⟨2, j, none⟩ = some (.int .u8 ((fun j => ((sgL.getD j 0 : Nat) : Int)) j)) := fun j hj => by
    rw [World.var?_cell hg1 hv1 j]; simpa using b1 j hj
  have s1 := World.block_lt_of_cell? W _ (c_blake_rows 0 (by decide))
  have b2 := open_table (n := 8) (m := 4) Tryd.underlying91 Tryd.underlying90 Tryd.underlying5 cDS6 cDS3 (by decide) bplc (by rfl) hd2
  have c_blake_places : ∀ j, j < 32 → W.cell? ⟨1, j, none⟩ = some (.int .u8 (bplc j)) := fun j hj => by
    rw [World.var?_cell hg2 hv2 j]; simpa using b2 j hj
  have s2 := World.block_lt_of_cell? W _ (c_blake_places 0 (by decide))
  obtain ⟨F3, _, eA3, eB3⟩ := open_row Tryd.underlying104 Tryd.underlying62 cDS7 cDS1 hd3
  simp only [Prod.mk.injEq] at eB3
  have eF3 := litR_inj (show (litR .u32 4 hfst : DataW _) = litR .u32 4 F3 from eB3.1)
  have c_chacha_first : ∀ j, j < 4 → W.cell? ⟨3, j, none⟩ = some (.int .u32 (hfst j)) := fun j hj => by
    rw [World.var?_cell hg3 hv3 j, eF3 j hj]
    have := row_get .u32 4 F3 j hj
    rw [← eA3] at this
    simpa using this
  have s3 := World.block_lt_of_cell? W _ (c_chacha_first 0 (by decide))
  have b4 := open_table (n := 8) (m := 4) Tryd.underlying106 Tryd.underlying105 Tryd.underlying3 cDS10 cDS9 (by decide) plc (by rfl) hd4
  have c_chacha_places : ∀ j, j < 32 → W.cell? ⟨4, j, none⟩ = some (.int .i64 (plc j)) := fun j hj => by
    rw [World.var?_cell hg4 hv4 j]; simpa using b4 j hj
  have s4 := World.block_lt_of_cell? W _ (c_chacha_places 0 (by decide))
  obtain ⟨F5, _, eA5, eB5⟩ := open_row Tryd.underlying42 Tryd.underlying5 cDS11 cDS3 hd5
  simp only [Prod.mk.injEq] at eB5
  have eF5 := litR_inj (show (litR .u8 16 keptB : DataW _) = litR .u8 16 F5 from eB5.1)
  have c_clamp_kept : ∀ j, j < 16 → W.cell? ⟨5, j, none⟩ = some (.int .u8 (keptB j)) := fun j hj => by
    rw [World.var?_cell hg5 hv5 j, eF5 j hj]
    have := row_get .u8 16 F5 j hj
    rw [← eA5] at this
    simpa using this
  have s5 := World.block_lt_of_cell? W _ (c_clamp_kept 0 (by decide))
  obtain ⟨F6, _, eA6, eB6⟩ := open_row Tryd.underlying98 Tryd.underlying45 cDS12 cDS13 hd6
  simp only [Prod.mk.injEq] at eB6
  have eF6 := litR_inj (show (litR .u64 3 qW : DataW _) = litR .u64 3 F6 from eB6.1)
  have c_clamp_modulus : ∀ j, j < 3 → W.cell? ⟨6, j, none⟩ = some (.int .u64 (qW j)) := fun j hj => by
    rw [World.var?_cell hg6 hv6 j, eF6 j hj]
    have := row_get .u64 3 F6 j hj
    rw [← eA6] at this
    simpa using this
  have s6 := World.block_lt_of_cell? W _ (c_clamp_modulus 0 (by decide))
  have hsz : 7 ≤ W.heap.size := by dsimp only at s0 s1 s2 s3 s4 s5 s6; omega
  exact ⟨⟨⟨c_chacha_first, c_chacha_places, hsz⟩, ⟨c_clamp_modulus, c_clamp_kept, hsz⟩⟩, ⟨c_blake_iv, c_blake_rows, c_blake_places, hsz⟩⟩
theorem door_metS0 (os : Os) (args : Array Value) : laidMet Tryd.prog laidS ((World.doorLaid Tryd.prog 100 os).forCall (fun _ _ => 0) ⟨#[], args, []⟩).memory := laidMet_of_run' 8 (by kernel_rfl) (by kernel_rfl)
theorem door_metS (os : Os) (args : Array Value) : laidMetH Tryd.prog laidS ((World.doorLaid Tryd.prog 100 os).forCall (fun _ _ => 0) ⟨#[], args, []⟩).memory :=
  laidMetH_of_parts3 (fuel := 8) (door_metS0 os args) (by kernel_rfl) (by kernel_rfl)
end
end Go.Proofs.YtgfpflcoknpbdaaDoor
