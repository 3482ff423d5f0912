/- The walk of OctetsVars. -/
import Derived.Test.YtogbdoikkmdopaaG2
namespace Go.Proofs.Ytogbdoikkmdopaa
open Go.RowKit

set_option maxRecDepth 10000 in
set_option maxHeartbeats 16000000 in
theorem law_OctetsVars (hPV : PutVarOK) (hTV : TakeVarOK) (hPF : PutFixedOK) (hTF : TakeFixedOK) (hPB : PutBytesOK) (hTB : TakeBytesOK) (sp : Option Addr) (len cap : Nat) (hlb : len ≤ 140737488351232) (hcb : len ≤ cap) (hnb : sp = none → cap = 0) (z : Nat → Int) (hib : In 256 len z) (n : Int) (hn : -9223372036854775808 ≤ n ∧ n < 9223372036854775808) (w : World) (hsb : Src w sp len z) : Calls Try.prog 3 #[.slice sp len cap, .int .i64 n] w fun e w' => e = .returned (.bool true) ∧ Below w.heap.size w w' := by
  have K := Kr.init w
  go_enter Try.func3, Try.ntmps3
  go_upto_region 1 with fail
  refine wp_region_list ?_
  refine callL rfl (fun _ => by kernel_rfl) (vshown_any hPV hTV hPF hTF hPB hTB _) ?_
  rintro e w1 ⟨rfl, l⟩
  replace K := K.call l
  clear l
  refine ⟨_, rfl, ?_⟩
  simp only [Act.put, List.setIfInBounds_toArray, List.set_cons_zero, List.set_cons_succ]
  refine pureL (.bool true) rfl (fun _ => by kernel_rfl) ?_
  simp only [Act.put, List.setIfInBounds_toArray, List.set_cons_zero, List.set_cons_succ]
  show Exit.then _ _ _ _ _
  go_upto_region 2 with fail
  refine wp_region_list ?_
  refine actL (w' := w1.alloc (.cells #[] 5)) (.slice (some ⟨w1.heap.size, 0, none⟩) 0 0) rfl (by kernel_rfl) ?_
  simp only [Act.put, List.setIfInBounds_toArray, List.set_cons_zero, List.set_cons_succ]
  have hb := (Below.refl w1.heap.size w1).alloc (Nat.le_refl _) (.cells #[] 5)
  refine pureL (.slice sp len cap) rfl (fun _ => by kernel_rfl) ?_
  simp only [Act.put, List.setIfInBounds_toArray, List.set_cons_zero, List.set_cons_succ]
  obtain ⟨vw3, w3, hr, O_w3, hgr, _⟩ := run_append_Own (P := Try.prog) (ty := 22) Try.underlying22 one8 (Own.lit w1 w1.heap.size 5 .u8 0 (fun _ => 0) (Nat.le_refl _) (by unfold maxLen; omega)) (sp) (len) (cap) (z) (hsb.below (K.call hb).below (Nat.le_refl _)) hnb (by unfold maxLen; omega) (by omega) hb.size
  replace hb := hb.grown hgr hb.size (fun b hb => (World.ownsRow.lt (Own.lit w1 w1.heap.size 5 .u8 0 (fun _ => 0) (Nat.le_refl _) (by unfold maxLen; omega)) b hb).1)
  refine actL vw3 rfl (appendOp _ _ 22 _ _ _ rfl rfl rfl hr) ?_
  simp only [Act.put, List.setIfInBounds_toArray, List.set_cons_zero, List.set_cons_succ]
  replace O_w3 : Own w3 w1.heap.size 5 .u8 (len) (z) vw3 := by
    rw [Nat.zero_add] at O_w3
    exact O_w3.congr (fun j _ => by unfold app; rw [if_neg (Nat.not_lt_zero j), Nat.sub_zero])
  obtain ⟨p_w3, c_w3, rfl, le_w3, s_w3⟩ := O_w3.bytes
  have nil_w3 := O_w3.nilCap
  clear hr hgr
  refine pureL (.slice p_w3 len c_w3) rfl (fun _ => by kernel_rfl) ?_
  simp only [Act.put, List.setIfInBounds_toArray, List.set_cons_zero, List.set_cons_succ]
  replace K := K.call hb
  clear hb
  show Exit.then _ _ _ _ _
  go_upto_region 3 with fail
  refine wp_region_list ?_
  refine pureL (.slice p_w3 len c_w3) rfl (fun _ => by kernel_rfl) ?_
  simp only [Act.put, List.setIfInBounds_toArray, List.set_cons_zero, List.set_cons_succ]
  refine pureL (.int .i64 n) rfl (fun _ => by kernel_rfl) ?_
  simp only [Act.put, List.setIfInBounds_toArray, List.set_cons_zero, List.set_cons_succ]
  have z_k8 := K.size
  refine callL rfl (fun _ => by kernel_rfl) (hPV (p_w3) (len) (c_w3) (by omega) le_w3 nil_w3 (z) hib n (by omega) _ s_w3) ?_
  rintro e w4 ⟨⟨v_k8, rfl, O_k8⟩, l⟩
  replace K := K.call l
  replace s_w3 := s_w3.below l (Nat.le_refl _)
  have b_k8 := l.size
  clear l
  obtain ⟨p_k8, c_k8, rfl, le_k8, s_k8⟩ := O_k8.bytes
  have nil_k8 := O_k8.nilCap
  refine ⟨_, rfl, ?_⟩
  simp only [Act.put, List.setIfInBounds_toArray, List.set_cons_zero, List.set_cons_succ]
  refine pureL (.tuple #[.slice p_k8 (vL len n) c_k8, .int .i64 (vE n)]) rfl (fun _ => by kernel_rfl) ?_
  simp only [Act.put, List.setIfInBounds_toArray, List.set_cons_zero, List.set_cons_succ]
  refine pureL (.slice p_k8 (vL len n) c_k8) rfl (fun _ => by kernel_rfl) ?_
  simp only [Act.put, List.setIfInBounds_toArray, List.set_cons_zero, List.set_cons_succ]
  refine pureL (.int .i64 (vE n)) rfl (fun _ => by kernel_rfl) ?_
  simp only [Act.put, List.setIfInBounds_toArray, List.set_cons_zero, List.set_cons_succ]
  refine pureL (.slice p_k8 (vL len n) c_k8) rfl (fun _ => by kernel_rfl) ?_
  simp only [Act.put, List.setIfInBounds_toArray, List.set_cons_zero, List.set_cons_succ]
  refine pureL (.int .i64 (vE n)) rfl (fun _ => by kernel_rfl) ?_
  simp only [Act.put, List.setIfInBounds_toArray, List.set_cons_zero, List.set_cons_succ]
  show Exit.then _ _ _ _ _
  go_upto_region 4 with fail
  refine wp_region_list ?_
  refine pureL (.slice sp len cap) rfl (fun _ => by kernel_rfl) ?_
  simp only [Act.put, List.setIfInBounds_toArray, List.set_cons_zero, List.set_cons_succ]
  refine pureL (.int .i64 n) rfl (fun _ => by kernel_rfl) ?_
  simp only [Act.put, List.setIfInBounds_toArray, List.set_cons_zero, List.set_cons_succ]
  have z_k9 := K.size
  refine callL rfl (fun _ => by kernel_rfl) (rputvar_any (sp) (len) (cap) (by omega) hcb hnb (z) hib n _ (hsb.below K.below (Nat.le_refl _))) ?_
  rintro e w5 ⟨⟨v_k9, rfl, O_k9⟩, l⟩
  replace K := K.call l
  replace s_w3 := s_w3.below l (Nat.le_refl _)
  replace O_k8 := O_k8.below l
  replace s_k8 := s_k8.below l (Nat.le_refl _)
  have b_k9 := l.size
  clear l
  obtain ⟨p_k9, c_k9, rfl, le_k9, s_k9⟩ := O_k9.bytes
  have nil_k9 := O_k9.nilCap
  refine ⟨_, rfl, ?_⟩
  simp only [Act.put, List.setIfInBounds_toArray, List.set_cons_zero, List.set_cons_succ]
  refine pureL (.tuple #[.slice p_k9 (vL len n) c_k9, .int .i64 (vE n)]) rfl (fun _ => by kernel_rfl) ?_
  simp only [Act.put, List.setIfInBounds_toArray, List.set_cons_zero, List.set_cons_succ]
  refine pureL (.slice p_k9 (vL len n) c_k9) rfl (fun _ => by kernel_rfl) ?_
  simp only [Act.put, List.setIfInBounds_toArray, List.set_cons_zero, List.set_cons_succ]
  refine pureL (.int .i64 (vE n)) rfl (fun _ => by kernel_rfl) ?_
  simp only [Act.put, List.setIfInBounds_toArray, List.set_cons_zero, List.set_cons_succ]
  refine pureL (.slice p_k9 (vL len n) c_k9) rfl (fun _ => by kernel_rfl) ?_
  simp only [Act.put, List.setIfInBounds_toArray, List.set_cons_zero, List.set_cons_succ]
  refine pureL (.int .i64 (vE n)) rfl (fun _ => by kernel_rfl) ?_
  simp only [Act.put, List.setIfInBounds_toArray, List.set_cons_zero, List.set_cons_succ]
  show Exit.then _ _ _ _ _
  go_upto_region 5 with fail
  refine wp_region_list ?_
  refine pureL (.bool true) rfl (fun _ => by kernel_rfl) ?_
  simp only [Act.put, List.setIfInBounds_toArray, List.set_cons_zero, List.set_cons_succ]
  refine pureL (.bool true) rfl (fun _ => by kernel_rfl) ?_
  simp only [Act.put, List.setIfInBounds_toArray, List.set_cons_zero, List.set_cons_succ]
  refine pureL (.slice p_k8 (vL len n) c_k8) rfl (fun _ => by kernel_rfl) ?_
  simp only [Act.put, List.setIfInBounds_toArray, List.set_cons_zero, List.set_cons_succ]
  refine readL (.string (txt (vL len n) (vput len z n))) rfl (conv_txt 22 5 9 _ rfl Try.underlying22 Try.underlying5 Try.underlying9 (p_k8) (vL len n) (c_k8) (vput len z n) rfl _ (s_k8) (Src.none (s_k8))) ?_
  simp only [Act.put, List.setIfInBounds_toArray, List.set_cons_zero, List.set_cons_succ]
  refine pureL (.slice p_k9 (vL len n) c_k9) rfl (fun _ => by kernel_rfl) ?_
  simp only [Act.put, List.setIfInBounds_toArray, List.set_cons_zero, List.set_cons_succ]
  refine readL (.string (txt (vL len n) (vput len z n))) rfl (conv_txt 22 5 9 _ rfl Try.underlying22 Try.underlying5 Try.underlying9 (p_k9) (vL len n) (c_k9) (vput len z n) rfl _ (s_k9) (Src.none (s_k9))) ?_
  simp only [Act.put, List.setIfInBounds_toArray, List.set_cons_zero, List.set_cons_succ]
  refine pureL (.bool true) rfl (fun w => eqlS _ _ _ _ _ _ rfl rfl rfl rfl w) ?_
  simp only [Act.put, List.setIfInBounds_toArray, List.set_cons_zero, List.set_cons_succ]
  refine pureL (.bool true) rfl (fun _ => by kernel_rfl) ?_
  simp only [Act.put, List.setIfInBounds_toArray, List.set_cons_zero, List.set_cons_succ]
  refine pureL (.bool true) rfl (fun _ => by kernel_rfl) ?_
  simp only [Act.put, List.setIfInBounds_toArray, List.set_cons_zero, List.set_cons_succ]
  refine pureL (.int .i64 (vE n)) rfl (fun _ => by kernel_rfl) ?_
  simp only [Act.put, List.setIfInBounds_toArray, List.set_cons_zero, List.set_cons_succ]
  refine pureL (.int .i64 (vE n)) rfl (fun _ => by kernel_rfl) ?_
  simp only [Act.put, List.setIfInBounds_toArray, List.set_cons_zero, List.set_cons_succ]
  refine pureL (.bool true) rfl (fun w => eqlI .i64 _ _ _ _ _ _ rfl rfl rfl true (beq_self_eq_true _) w) ?_
  simp only [Act.put, List.setIfInBounds_toArray, List.set_cons_zero, List.set_cons_succ]
  refine pureL (.bool true) rfl (fun _ => by kernel_rfl) ?_
  simp only [Act.put, List.setIfInBounds_toArray, List.set_cons_zero, List.set_cons_succ]
  refine pureL (.bool true) rfl (fun _ => by kernel_rfl) ?_
  simp only [Act.put, List.setIfInBounds_toArray, List.set_cons_zero, List.set_cons_succ]
  refine pureL (.slice p_w3 len c_w3) rfl (fun _ => by kernel_rfl) ?_
  simp only [Act.put, List.setIfInBounds_toArray, List.set_cons_zero, List.set_cons_succ]
  refine readL (.string (txt (len) (z))) rfl (conv_txt 22 5 9 _ rfl Try.underlying22 Try.underlying5 Try.underlying9 (p_w3) (len) (c_w3) (z) rfl _ (s_w3) (Src.none (s_w3))) ?_
  simp only [Act.put, List.setIfInBounds_toArray, List.set_cons_zero, List.set_cons_succ]
  refine pureL (.slice sp len cap) rfl (fun _ => by kernel_rfl) ?_
  simp only [Act.put, List.setIfInBounds_toArray, List.set_cons_zero, List.set_cons_succ]
  refine readL (.string (txt (len) (z))) rfl (conv_txt 22 5 9 _ rfl Try.underlying22 Try.underlying5 Try.underlying9 (sp) (len) (cap) (z) rfl _ ((hsb.below K.below (Nat.le_refl _))) (Src.none ((hsb.below K.below (Nat.le_refl _))))) ?_
  simp only [Act.put, List.setIfInBounds_toArray, List.set_cons_zero, List.set_cons_succ]
  refine pureL (.bool true) rfl (fun w => eqlS _ _ _ _ _ _ rfl rfl rfl rfl w) ?_
  simp only [Act.put, List.setIfInBounds_toArray, List.set_cons_zero, List.set_cons_succ]
  refine pureL (.bool true) rfl (fun _ => by kernel_rfl) ?_
  simp only [Act.put, List.setIfInBounds_toArray, List.set_cons_zero, List.set_cons_succ]
  refine pureL (.bool true) rfl (fun _ => by kernel_rfl) ?_
  simp only [Act.put, List.setIfInBounds_toArray, List.set_cons_zero, List.set_cons_succ]
  show Exit.then _ _ _ _ _
  have hB := K.below
  clear K
  go_wp2
  go_ret
  exact ⟨rfl, hB⟩
end Go.Proofs.Ytogbdoikkmdopaa
