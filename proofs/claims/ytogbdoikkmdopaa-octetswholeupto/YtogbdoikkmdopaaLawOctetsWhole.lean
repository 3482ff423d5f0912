/- The walk of OctetsWhole. -/
import Derived.Test.YtogbdoikkmdopaaG2
namespace Go.Proofs.Ytogbdoikkmdopaa
open Go.RowKit

set_option maxRecDepth 10000 in
set_option maxHeartbeats 16000000 in
theorem law_OctetsWhole (hPV : PutVarOK) (hTV : TakeVarOK) (hPF : PutFixedOK) (hTF : TakeFixedOK) (hPB : PutBytesOK) (hTB : TakeBytesOK) (tp : Option Addr) (tl tc : Nat) (hlt : tl ≤ 140737488351232) (hct : tl ≤ tc) (hnt : tp = none → tc = 0) (x : Nat → Int) (hit : In 256 tl x) (sp : Option Addr) (len cap : Nat) (_hlb : len ≤ 140737488351232) (_hcb : len ≤ cap) (hnb : sp = none → cap = 0) (z : Nat → Int) (hib : In 256 len z) (hsum : tl + len ≤ 140737488350000) (w : World) (hst : Src w tp tl x) (hsb : Src w sp len z) : Calls Try.prog 8 #[.slice tp tl tc, .slice sp len cap] w fun e w' => e = .returned (.bool true) ∧ Below w.heap.size w w' := by
  have hv8 := vsz_le tl
  have K := Kr.init w
  go_enter Try.func8, Try.ntmps8
  go_upto_region 1 with fail
  refine wp_region_list ?_
  refine callL rfl (fun _ => by kernel_rfl) (vshown_any hPV hTV hPF hTF hPB hTB _) ?_
  rintro e w1 ⟨rfl, l⟩
  replace K := K.call l
  clear l
  refine ⟨_, rfl, ?_⟩
  simp only [Act.put, List.setIfInBounds_toArray, List.set_cons_zero, List.set_cons_succ]
  refine pureL (.bool true) rfl (fun _ => by kernel_rfl) ?_
  simp only [Act.put, List.setIfInBounds_toArray, List.set_cons_zero, List.set_cons_succ]
  show Exit.then _ _ _ _ _
  go_upto_region 2 with fail
  refine wp_region_list ?_
  refine pureL (.slice tp tl tc) rfl (fun _ => by kernel_rfl) ?_
  simp only [Act.put, List.setIfInBounds_toArray, List.set_cons_zero, List.set_cons_succ]
  have z_k30 := K.size
  refine callL rfl (fun _ => by kernel_rfl) (hPB (none) (0) (0) (by decide) (by decide) (fun _ => rfl) (z0) (z0_in 0) (tp) (tl) (tc) hlt hct hnt (x) hit (by omega) _ (fun j hj => absurd hj (Nat.not_lt_zero j)) (hst.below K.below (Nat.le_refl _))) ?_
  rintro e w2 ⟨⟨v_k30, rfl, O_k30⟩, l⟩
  replace K := K.call l
  have b_k30 := l.size
  clear l
  obtain ⟨p_k30, c_k30, rfl, le_k30, s_k30⟩ := O_k30.bytes
  have nil_k30 := O_k30.nilCap
  refine ⟨_, rfl, ?_⟩
  simp only [Act.put, List.setIfInBounds_toArray, List.set_cons_zero, List.set_cons_succ]
  refine pureL (.tuple #[.slice p_k30 (0 + vsz tl + tl) c_k30, .int .i64 0]) rfl (fun _ => by kernel_rfl) ?_
  simp only [Act.put, List.setIfInBounds_toArray, List.set_cons_zero, List.set_cons_succ]
  refine pureL (.slice p_k30 (0 + vsz tl + tl) c_k30) rfl (fun _ => by kernel_rfl) ?_
  simp only [Act.put, List.setIfInBounds_toArray, List.set_cons_zero, List.set_cons_succ]
  refine pureL (.int .i64 0) rfl (fun _ => by kernel_rfl) ?_
  simp only [Act.put, List.setIfInBounds_toArray, List.set_cons_zero, List.set_cons_succ]
  refine pureL (.slice p_k30 (0 + vsz tl + tl) c_k30) rfl (fun _ => by kernel_rfl) ?_
  simp only [Act.put, List.setIfInBounds_toArray, List.set_cons_zero, List.set_cons_succ]
  refine pureL (.int .i64 0) rfl (fun _ => by kernel_rfl) ?_
  simp only [Act.put, List.setIfInBounds_toArray, List.set_cons_zero, List.set_cons_succ]
  show Exit.then _ _ _ _ _
  have hP := take_text tl (by omega) len (app (app (vby tl) (vsz tl) x) (vsz tl + tl) z) (fun j hj => by unfold app; rw [if_pos (by omega), if_pos hj])
  go_upto_region 3 with fail
  refine wp_region_list ?_
  refine pureL (.slice p_k30 (0 + vsz tl + tl) c_k30) rfl (fun _ => by kernel_rfl) ?_
  simp only [Act.put, List.setIfInBounds_toArray, List.set_cons_zero, List.set_cons_succ]
  refine pureL (.slice sp len cap) rfl (fun _ => by kernel_rfl) ?_
  simp only [Act.put, List.setIfInBounds_toArray, List.set_cons_zero, List.set_cons_succ]
  obtain ⟨vw3, w3, hr, O_w3, hgr, _⟩ := run_append_Own (P := Try.prog) (ty := 22) Try.underlying22 one8 O_k30 (sp) (len) (cap) (z) (hsb.below K.below (Nat.le_refl _)) hnb (by unfold maxLen; omega) (by omega) b_k30
  replace K := K.grown hgr (fun b hb => Nat.le_trans z_k30 (World.ownsRow.lt O_k30 b hb).1)
  refine actL vw3 rfl (appendOp _ _ 22 _ _ _ rfl rfl rfl hr) ?_
  simp only [Act.put, List.setIfInBounds_toArray, List.set_cons_zero, List.set_cons_succ]
  replace O_w3 : Own w3 w1.heap.size 5 .u8 (vsz tl + (tl + len)) (app (app (vby tl) (vsz tl) x) (vsz tl + tl) z) vw3 := by
    rw [show 0 + vsz tl + tl + len = vsz tl + (tl + len) by omega] at O_w3
    exact O_w3.congr (fun j _ => by unfold app; rw [Nat.zero_add]; by_cases e : j < vsz tl + tl; rw [if_pos e, if_pos e]; by_cases e2 : j < vsz tl; rw [if_pos e2, if_pos e2, if_neg (Nat.not_lt_zero j), Nat.sub_zero]; rw [if_neg e2, if_neg e2]; rw [if_neg e, if_neg e])
  obtain ⟨p_w3, c_w3, rfl, le_w3, s_w3⟩ := O_w3.bytes
  have nil_w3 := O_w3.nilCap
  clear hr hgr
  refine pureL (.slice tp tl tc) rfl (fun _ => by kernel_rfl) ?_
  simp only [Act.put, List.setIfInBounds_toArray, List.set_cons_zero, List.set_cons_succ]
  refine pureL (.int .i64 ((tl : Nat) : Int)) rfl (fun w => lenS _ 22 5 (tp) (tl) (tc) rfl Try.underlying22 rfl w) ?_
  simp only [Act.put, List.setIfInBounds_toArray, List.set_cons_zero, List.set_cons_succ]
  refine callL rfl (fun _ => by kernel_rfl) (hTB (p_w3) (vsz tl + (tl + len)) (c_w3) (by omega) le_w3 nil_w3 (app (app (vby tl) (vsz tl) x) (vsz tl + tl) z) (whole_in hit hib (by omega)) ((tl : Nat) : Int) (by omega) _ s_w3) ?_
  rintro e w4 ⟨⟨p_k31, c_k31, g_k31, d_k31, rfl, s_k31, t_k31⟩, l⟩
  replace K := K.call l
  replace s_w3 := s_w3.below l (Nat.le_refl _)
  replace O_w3 := O_w3.below l
  clear l
  rw [hP.1]
  rw [hP.2.1] at s_k31 ⊢
  rw [hP.2.2.1] at t_k31 ⊢
  replace s_k31 := s_k31.congr (y := x) (fun j hj => by rw [hP.2.2.2.1]; unfold app; rw [if_pos (by omega), if_neg (by omega), show vsz tl + j - vsz tl = j by omega])
  replace t_k31 := t_k31.congr (y := z) (fun j _ => by rw [hP.2.2.2.2]; unfold app; rw [if_neg (by omega), show vsz tl + (tl + j) - (vsz tl + tl) = j by omega])
  refine ⟨_, rfl, ?_⟩
  simp only [Act.put, List.setIfInBounds_toArray, List.set_cons_zero, List.set_cons_succ]
  refine pureL (.tuple #[.slice p_k31 tl c_k31, .slice g_k31 len d_k31, .int .i64 0]) rfl (fun _ => by kernel_rfl) ?_
  simp only [Act.put, List.setIfInBounds_toArray, List.set_cons_zero, List.set_cons_succ]
  refine pureL (.slice p_k31 tl c_k31) rfl (fun _ => by kernel_rfl) ?_
  simp only [Act.put, List.setIfInBounds_toArray, List.set_cons_zero, List.set_cons_succ]
  refine pureL (.slice g_k31 len d_k31) rfl (fun _ => by kernel_rfl) ?_
  simp only [Act.put, List.setIfInBounds_toArray, List.set_cons_zero, List.set_cons_succ]
  refine pureL (.int .i64 0) rfl (fun _ => by kernel_rfl) ?_
  simp only [Act.put, List.setIfInBounds_toArray, List.set_cons_zero, List.set_cons_succ]
  refine pureL (.slice p_k31 tl c_k31) rfl (fun _ => by kernel_rfl) ?_
  simp only [Act.put, List.setIfInBounds_toArray, List.set_cons_zero, List.set_cons_succ]
  refine pureL (.slice g_k31 len d_k31) rfl (fun _ => by kernel_rfl) ?_
  simp only [Act.put, List.setIfInBounds_toArray, List.set_cons_zero, List.set_cons_succ]
  refine pureL (.int .i64 0) rfl (fun _ => by kernel_rfl) ?_
  simp only [Act.put, List.setIfInBounds_toArray, List.set_cons_zero, List.set_cons_succ]
  show Exit.then _ _ _ _ _
  go_upto_region 4 with fail
  refine wp_region_list ?_
  refine pureL (.bool true) rfl (fun _ => by kernel_rfl) ?_
  simp only [Act.put, List.setIfInBounds_toArray, List.set_cons_zero, List.set_cons_succ]
  refine pureL (.bool true) rfl (fun _ => by kernel_rfl) ?_
  simp only [Act.put, List.setIfInBounds_toArray, List.set_cons_zero, List.set_cons_succ]
  refine pureL (.int .i64 0) rfl (fun _ => by kernel_rfl) ?_
  simp only [Act.put, List.setIfInBounds_toArray, List.set_cons_zero, List.set_cons_succ]
  refine pureL (.bool true) rfl (fun w => eqlI .i64 _ _ _ _ _ _ rfl rfl rfl true (by decide) w) ?_
  simp only [Act.put, List.setIfInBounds_toArray, List.set_cons_zero, List.set_cons_succ]
  refine pureL (.bool true) rfl (fun _ => by kernel_rfl) ?_
  simp only [Act.put, List.setIfInBounds_toArray, List.set_cons_zero, List.set_cons_succ]
  refine pureL (.bool true) rfl (fun _ => by kernel_rfl) ?_
  simp only [Act.put, List.setIfInBounds_toArray, List.set_cons_zero, List.set_cons_succ]
  refine pureL (.int .i64 0) rfl (fun _ => by kernel_rfl) ?_
  simp only [Act.put, List.setIfInBounds_toArray, List.set_cons_zero, List.set_cons_succ]
  refine pureL (.bool true) rfl (fun w => eqlI .i64 _ _ _ _ _ _ rfl rfl rfl true (by decide) w) ?_
  simp only [Act.put, List.setIfInBounds_toArray, List.set_cons_zero, List.set_cons_succ]
  refine pureL (.bool true) rfl (fun _ => by kernel_rfl) ?_
  simp only [Act.put, List.setIfInBounds_toArray, List.set_cons_zero, List.set_cons_succ]
  refine pureL (.bool true) rfl (fun _ => by kernel_rfl) ?_
  simp only [Act.put, List.setIfInBounds_toArray, List.set_cons_zero, List.set_cons_succ]
  refine pureL (.slice p_k31 tl c_k31) rfl (fun _ => by kernel_rfl) ?_
  simp only [Act.put, List.setIfInBounds_toArray, List.set_cons_zero, List.set_cons_succ]
  refine readL (.string (txt (tl) (x))) rfl (conv_txt 22 5 9 _ rfl Try.underlying22 Try.underlying5 Try.underlying9 (p_k31) (tl) (c_k31) (x) rfl _ (s_k31) (Src.none (s_k31))) ?_
  simp only [Act.put, List.setIfInBounds_toArray, List.set_cons_zero, List.set_cons_succ]
  refine pureL (.slice tp tl tc) rfl (fun _ => by kernel_rfl) ?_
  simp only [Act.put, List.setIfInBounds_toArray, List.set_cons_zero, List.set_cons_succ]
  refine readL (.string (txt (tl) (x))) rfl (conv_txt 22 5 9 _ rfl Try.underlying22 Try.underlying5 Try.underlying9 (tp) (tl) (tc) (x) rfl _ ((hst.below K.below (Nat.le_refl _))) (Src.none ((hst.below K.below (Nat.le_refl _))))) ?_
  simp only [Act.put, List.setIfInBounds_toArray, List.set_cons_zero, List.set_cons_succ]
  refine pureL (.bool true) rfl (fun w => eqlS _ _ _ _ _ _ rfl rfl rfl rfl w) ?_
  simp only [Act.put, List.setIfInBounds_toArray, List.set_cons_zero, List.set_cons_succ]
  refine pureL (.bool true) rfl (fun _ => by kernel_rfl) ?_
  simp only [Act.put, List.setIfInBounds_toArray, List.set_cons_zero, List.set_cons_succ]
  refine pureL (.bool true) rfl (fun _ => by kernel_rfl) ?_
  simp only [Act.put, List.setIfInBounds_toArray, List.set_cons_zero, List.set_cons_succ]
  refine pureL (.slice g_k31 len d_k31) rfl (fun _ => by kernel_rfl) ?_
  simp only [Act.put, List.setIfInBounds_toArray, List.set_cons_zero, List.set_cons_succ]
  refine readL (.string (txt (len) (z))) rfl (conv_txt 22 5 9 _ rfl Try.underlying22 Try.underlying5 Try.underlying9 (g_k31) (len) (d_k31) (z) rfl _ (t_k31) (Src.none (t_k31))) ?_
  simp only [Act.put, List.setIfInBounds_toArray, List.set_cons_zero, List.set_cons_succ]
  refine pureL (.slice sp len cap) rfl (fun _ => by kernel_rfl) ?_
  simp only [Act.put, List.setIfInBounds_toArray, List.set_cons_zero, List.set_cons_succ]
  refine readL (.string (txt (len) (z))) rfl (conv_txt 22 5 9 _ rfl Try.underlying22 Try.underlying5 Try.underlying9 (sp) (len) (cap) (z) rfl _ ((hsb.below K.below (Nat.le_refl _))) (Src.none ((hsb.below K.below (Nat.le_refl _))))) ?_
  simp only [Act.put, List.setIfInBounds_toArray, List.set_cons_zero, List.set_cons_succ]
  refine pureL (.bool true) rfl (fun w => eqlS _ _ _ _ _ _ rfl rfl rfl rfl w) ?_
  simp only [Act.put, List.setIfInBounds_toArray, List.set_cons_zero, List.set_cons_succ]
  refine pureL (.bool true) rfl (fun _ => by kernel_rfl) ?_
  simp only [Act.put, List.setIfInBounds_toArray, List.set_cons_zero, List.set_cons_succ]
  refine pureL (.bool true) rfl (fun _ => by kernel_rfl) ?_
  simp only [Act.put, List.setIfInBounds_toArray, List.set_cons_zero, List.set_cons_succ]
  show Exit.then _ _ _ _ _
  have hB := K.below
  clear K hP
  go_wp2
  go_ret
  exact ⟨rfl, hB⟩
end Go.Proofs.Ytogbdoikkmdopaa
