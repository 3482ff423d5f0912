/- The walk of KdfExtracts. -/
import Derived.Test.YtcdbkbcfjdpdoaaDoorG4
namespace Go.Proofs.YtcdbkbcfjdpdoaaDoor
open Go.RowKit

set_option maxRecDepth 10000 in
set_option maxHeartbeats 16000000 in
theorem law_KdfExtracts (kp : Option Addr) (kl kc : Nat) (hlk : kl ≤ 140737488351232) (_hck : kl ≤ kc) (hnk : kp = none → kc = 0) (key : Nat → Int) (hik : In 256 kl key) (sp : Option Addr) (len cap : Nat) (hlb : len ≤ 140737488351232) (_hcb : len ≤ cap) (hnb : sp = none → cap = 0) (z : Nat → Int) (hib : In 256 len z) (w : World) (hg : BGlob w) (hsk : Src w kp kl key) (hsb : Src w sp len z) :
    Calls Tryd.prog 3 #[.slice kp kl kc, .slice sp len cap] w fun e w' => e = .returned (.bool true) ∧ Below w.heap.size w w' := by
  have K := Kr.init w
  go_enter Tryd.func3, Tryd.ntmps3
  go_upto_region 1 with fail
  refine wp_region_list ?_
  refine callL rfl (fun _ => by kernel_rfl) (kshown_any _ (hg.below K.below hg.size)) ?_
  rintro e w1 ⟨rfl, l⟩
  replace K := K.call l
  clear l
  refine ⟨_, rfl, ?_⟩
  simp only [Act.put, List.setIfInBounds_toArray, List.set_cons_zero, List.set_cons_succ]
  refine pureL (.bool true) rfl (fun _ => by kernel_rfl) ?_
  simp only [Act.put, List.setIfInBounds_toArray, List.set_cons_zero, List.set_cons_succ]
  show Exit.then _ _ _ _ _
  go_upto_region 2 with fail
  refine wp_region_list ?_
  refine actL (w' := w1.alloc (.cells #[] 5)) (.slice (some ⟨w1.heap.size, 0, none⟩) 0 0) rfl (by kernel_rfl) ?_
  simp only [Act.put, List.setIfInBounds_toArray, List.set_cons_zero, List.set_cons_succ]
  refine pureL (.slice sp len cap) rfl (fun _ => by kernel_rfl) ?_
  simp only [Act.put, List.setIfInBounds_toArray, List.set_cons_zero, List.set_cons_succ]
  have hb1 := (Below.refl w1.heap.size w1).alloc (Nat.le_refl _) (.cells #[] 5)
  obtain ⟨v, w2, hr, ho, hgr, _⟩ := run_append_Own (P := Tryd.prog) (ty := 22) Tryd.underlying22 one8 (show Own (w1.alloc (.cells #[] 5)) w1.heap.size 5 .u8 0 (fun _ => 0) (.slice (some ⟨w1.heap.size, 0, none⟩) 0 0) from Own.lit w1 w1.heap.size 5 .u8 0 (fun _ => 0) (Nat.le_refl _) (by unfold maxLen; omega)) sp len cap z (hsb.below (K.call hb1).below (Nat.le_refl _)) hnb (by unfold maxLen; omega) (by omega) (by simp)
  have hb2 := Below.grown hb1 hgr (by simp) (fun b hb => by injection hb with hb; simp only at hb; omega)
  refine actL v rfl (appendOp _ _ 22 _ _ _ rfl rfl rfl hr) ?_
  simp only [Act.put, List.setIfInBounds_toArray, List.set_cons_zero, List.set_cons_succ]
  refine pureL v rfl (fun _ => by kernel_rfl) ?_
  simp only [Act.put, List.setIfInBounds_toArray, List.set_cons_zero, List.set_cons_succ]
  rw [Nat.zero_add] at ho
  replace ho : Own w2 w1.heap.size 5 .u8 len z v := ho.congr (fun j _ => by unfold app; rw [if_neg (by omega), Nat.sub_zero])
  replace K := K.call hb2
  obtain ⟨qb, cb, rfl, hqb, sb⟩ := ho.bytes
  have neb := ho.nilCap
  clear hr ho hgr hb1 hb2
  show Exit.then _ _ _ _ _
  go_upto_region 3 with fail
  refine wp_region_list ?_
  refine actL (w' := w2.alloc (.cells #[] 5)) (.slice (some ⟨w2.heap.size, 0, none⟩) 0 0) rfl (by kernel_rfl) ?_
  simp only [Act.put, List.setIfInBounds_toArray, List.set_cons_zero, List.set_cons_succ]
  refine pureL (.slice kp kl kc) rfl (fun _ => by kernel_rfl) ?_
  simp only [Act.put, List.setIfInBounds_toArray, List.set_cons_zero, List.set_cons_succ]
  have hb1 := (Below.refl w2.heap.size w2).alloc (Nat.le_refl _) (.cells #[] 5)
  obtain ⟨v, w3, hr, ho, hgr, _⟩ := run_append_Own (P := Tryd.prog) (ty := 22) Tryd.underlying22 one8 (show Own (w2.alloc (.cells #[] 5)) w2.heap.size 5 .u8 0 (fun _ => 0) (.slice (some ⟨w2.heap.size, 0, none⟩) 0 0) from Own.lit w2 w2.heap.size 5 .u8 0 (fun _ => 0) (Nat.le_refl _) (by unfold maxLen; omega)) kp kl kc key (hsk.below (K.call hb1).below (Nat.le_refl _)) hnk (by unfold maxLen; omega) (by omega) (by simp)
  have hb2 := Below.grown hb1 hgr (by simp) (fun b hb => by injection hb with hb; simp only at hb; omega)
  refine actL v rfl (appendOp _ _ 22 _ _ _ rfl rfl rfl hr) ?_
  simp only [Act.put, List.setIfInBounds_toArray, List.set_cons_zero, List.set_cons_succ]
  refine pureL v rfl (fun _ => by kernel_rfl) ?_
  simp only [Act.put, List.setIfInBounds_toArray, List.set_cons_zero, List.set_cons_succ]
  rw [Nat.zero_add] at ho
  replace ho : Own w3 w2.heap.size 5 .u8 kl key v := ho.congr (fun j _ => by unfold app; rw [if_neg (by omega), Nat.sub_zero])
  replace K := K.call hb2
  replace sb := sb.below hb2 (Nat.le_refl _)
  obtain ⟨qk, ck, rfl, hqk, sk⟩ := ho.bytes
  have nek := ho.nilCap
  clear hr ho hgr hb1 hb2
  show Exit.then _ _ _ _ _
  go_upto_region 4 with fail
  refine wp_region_list ?_
  refine pureL (.bool true) rfl (fun _ => by kernel_rfl) ?_
  simp only [Act.put, List.setIfInBounds_toArray, List.set_cons_zero, List.set_cons_succ]
  refine pureL (.bool true) rfl (fun _ => by kernel_rfl) ?_
  simp only [Act.put, List.setIfInBounds_toArray, List.set_cons_zero, List.set_cons_succ]
  refine pureL (.slice qk kl ck) rfl (fun _ => by kernel_rfl) ?_
  simp only [Act.put, List.setIfInBounds_toArray, List.set_cons_zero, List.set_cons_succ]
  refine pureL (.slice qb len cb) rfl (fun _ => by kernel_rfl) ?_
  simp only [Act.put, List.setIfInBounds_toArray, List.set_cons_zero, List.set_cons_succ]
  refine callL rfl (fun _ => by kernel_rfl) (kextract_any qk kl ck (by omega) hqk nek key hik qb len cb (by omega) hqb neb z hib _ (hg.below K.below hg.size) sk sb) ?_
  rintro e w4 ⟨rfl, l⟩
  replace K := K.call l
  replace sk := sk.below l (Nat.le_refl _)
  replace sb := sb.below l (Nat.le_refl _)
  clear l
  refine ⟨_, rfl, ?_⟩
  simp only [Act.put, List.setIfInBounds_toArray, List.set_cons_zero, List.set_cons_succ]
  refine pureL (.slice kp kl kc) rfl (fun _ => by kernel_rfl) ?_
  simp only [Act.put, List.setIfInBounds_toArray, List.set_cons_zero, List.set_cons_succ]
  refine pureL (.slice sp len cap) rfl (fun _ => by kernel_rfl) ?_
  simp only [Act.put, List.setIfInBounds_toArray, List.set_cons_zero, List.set_cons_succ]
  refine callL rfl (fun _ => by kernel_rfl) (krefExtract_any kp kl kc (by omega) hnk key hik sp len cap (by omega) hnb z hib _ (hsk.below K.below (Nat.le_refl _)) (hsb.below K.below (Nat.le_refl _))) ?_
  rintro e w5 ⟨rfl, l⟩
  replace K := K.call l
  replace sk := sk.below l (Nat.le_refl _)
  replace sb := sb.below l (Nat.le_refl _)
  clear l
  refine ⟨_, rfl, ?_⟩
  simp only [Act.put, List.setIfInBounds_toArray, List.set_cons_zero, List.set_cons_succ]
  refine pureL (.bool true) rfl (fun w => eqlV 32 (bmac kl key len z) (bmac kl key len z) 25 5 _ _ _ rfl rfl rfl Tryd.underlying25 Tryd.underlying5 (fun _ => by kernel_rfl) (by kernel_rfl) (bmac_in _ _ _ _ _) (bmac_in _ _ _ _ _) true (decide_eq_true (rfl)) w) ?_
  simp only [Act.put, List.setIfInBounds_toArray, List.set_cons_zero, List.set_cons_succ]
  refine pureL (.bool true) rfl (fun _ => by kernel_rfl) ?_
  simp only [Act.put, List.setIfInBounds_toArray, List.set_cons_zero, List.set_cons_succ]
  refine pureL (.bool true) rfl (fun _ => by kernel_rfl) ?_
  simp only [Act.put, List.setIfInBounds_toArray, List.set_cons_zero, List.set_cons_succ]
  refine pureL (.slice qb len cb) rfl (fun _ => by kernel_rfl) ?_
  simp only [Act.put, List.setIfInBounds_toArray, List.set_cons_zero, List.set_cons_succ]
  refine readL (.string (txt (len) (z))) rfl (conv_txt 22 5 9 _ rfl Tryd.underlying22 Tryd.underlying5 Tryd.underlying9 (qb) (len) (cb) (z) rfl _ (sb) (Src.none (sb))) ?_
  simp only [Act.put, List.setIfInBounds_toArray, List.set_cons_zero, List.set_cons_succ]
  refine pureL (.slice sp len cap) rfl (fun _ => by kernel_rfl) ?_
  simp only [Act.put, List.setIfInBounds_toArray, List.set_cons_zero, List.set_cons_succ]
  refine readL (.string (txt (len) (z))) rfl (conv_txt 22 5 9 _ rfl Tryd.underlying22 Tryd.underlying5 Tryd.underlying9 (sp) (len) (cap) (z) rfl _ ((hsb.below K.below (Nat.le_refl _))) (Src.none ((hsb.below K.below (Nat.le_refl _))))) ?_
  simp only [Act.put, List.setIfInBounds_toArray, List.set_cons_zero, List.set_cons_succ]
  refine pureL (.bool true) rfl (fun w => eqlS _ _ _ _ _ _ rfl rfl rfl rfl w) ?_
  simp only [Act.put, List.setIfInBounds_toArray, List.set_cons_zero, List.set_cons_succ]
  refine pureL (.bool true) rfl (fun _ => by kernel_rfl) ?_
  simp only [Act.put, List.setIfInBounds_toArray, List.set_cons_zero, List.set_cons_succ]
  refine pureL (.bool true) rfl (fun _ => by kernel_rfl) ?_
  simp only [Act.put, List.setIfInBounds_toArray, List.set_cons_zero, List.set_cons_succ]
  refine pureL (.slice qk kl ck) rfl (fun _ => by kernel_rfl) ?_
  simp only [Act.put, List.setIfInBounds_toArray, List.set_cons_zero, List.set_cons_succ]
  refine readL (.string (txt (kl) (key))) rfl (conv_txt 22 5 9 _ rfl Tryd.underlying22 Tryd.underlying5 Tryd.underlying9 (qk) (kl) (ck) (key) rfl _ (sk) (Src.none (sk))) ?_
  simp only [Act.put, List.setIfInBounds_toArray, List.set_cons_zero, List.set_cons_succ]
  refine pureL (.slice kp kl kc) rfl (fun _ => by kernel_rfl) ?_
  simp only [Act.put, List.setIfInBounds_toArray, List.set_cons_zero, List.set_cons_succ]
  refine readL (.string (txt (kl) (key))) rfl (conv_txt 22 5 9 _ rfl Tryd.underlying22 Tryd.underlying5 Tryd.underlying9 (kp) (kl) (kc) (key) rfl _ ((hsk.below K.below (Nat.le_refl _))) (Src.none ((hsk.below K.below (Nat.le_refl _))))) ?_
  simp only [Act.put, List.setIfInBounds_toArray, List.set_cons_zero, List.set_cons_succ]
  refine pureL (.bool true) rfl (fun w => eqlS _ _ _ _ _ _ rfl rfl rfl rfl w) ?_
  simp only [Act.put, List.setIfInBounds_toArray, List.set_cons_zero, List.set_cons_succ]
  refine pureL (.bool true) rfl (fun _ => by kernel_rfl) ?_
  simp only [Act.put, List.setIfInBounds_toArray, List.set_cons_zero, List.set_cons_succ]
  refine pureL (.bool true) rfl (fun _ => by kernel_rfl) ?_
  simp only [Act.put, List.setIfInBounds_toArray, List.set_cons_zero, List.set_cons_succ]
  show Exit.then _ _ _ _ _
  have hB := K.below
  clear K
  go_wp2
  go_ret
  exact ⟨rfl, hB⟩
end Go.Proofs.YtcdbkbcfjdpdoaaDoor
