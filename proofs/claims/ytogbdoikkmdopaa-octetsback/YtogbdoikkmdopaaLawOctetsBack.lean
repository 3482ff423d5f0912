/- The walk of OctetsBack. -/
import Derived.Test.YtogbdoikkmdopaaG2
namespace Go.Proofs.Ytogbdoikkmdopaa
open Go.RowKit

set_option maxRecDepth 10000 in
set_option maxHeartbeats 16000000 in
theorem law_OctetsBack (hPV : PutVarOK) (hTV : TakeVarOK) (hPF : PutFixedOK) (hTF : TakeFixedOK) (hPB : PutBytesOK) (hTB : TakeBytesOK) (n : Int) (hn : -9223372036854775808 ≤ n ∧ n < 9223372036854775808) (sp : Option Addr) (len cap : Nat) (hlb : len ≤ 140737488351232) (hcb : len ≤ cap) (hnb : sp = none → cap = 0) (z : Nat → Int) (hib : In 256 len z) (w : World) (hsb : Src w sp len z) : Calls Try.prog 7 #[.int .i64 n, .slice sp len cap] w fun e w' => e = .returned (.bool true) ∧ Below w.heap.size w w' := by
  by_cases hb : vbad n
  · have e1 : vE n = 1 := by unfold vE; rw [if_pos hb]
    have K := Kr.init w
    go_enter Try.func7, Try.ntmps7
    go_upto_region 1 with fail
    refine wp_region_list ?_
    refine callL rfl (fun _ => by kernel_rfl) (vshown_any hPV hTV hPF hTF hPB hTB _) ?_
    rintro e w1 ⟨rfl, l⟩
    replace K := K.call l
    clear l
    refine ⟨_, rfl, ?_⟩
    simp only [Act.put, List.setIfInBounds_toArray, List.set_cons_zero, List.set_cons_succ]
    refine pureL (.bool true) rfl (fun _ => by kernel_rfl) ?_
    simp only [Act.put, List.setIfInBounds_toArray, List.set_cons_zero, List.set_cons_succ]
    show Exit.then _ _ _ _ _
    go_upto_region 2 with fail
    refine wp_region_list ?_
    refine pureL (.int .i64 n) rfl (fun _ => by kernel_rfl) ?_
    simp only [Act.put, List.setIfInBounds_toArray, List.set_cons_zero, List.set_cons_succ]
    have z_k23 := K.size
    refine callL rfl (fun _ => by kernel_rfl) (hPV (none) (0) (0) (by decide) (by decide) (fun _ => rfl) (z0) (z0_in 0) n (by omega) _ (fun j hj => absurd hj (Nat.not_lt_zero j))) ?_
    rintro e w2 ⟨⟨v_k23, rfl, O_k23⟩, l⟩
    replace K := K.call l
    have b_k23 := l.size
    clear l
    obtain ⟨p_k23, c_k23, rfl, le_k23, s_k23⟩ := O_k23.bytes
    have nil_k23 := O_k23.nilCap
    refine ⟨_, rfl, ?_⟩
    simp only [Act.put, List.setIfInBounds_toArray, List.set_cons_zero, List.set_cons_succ]
    refine pureL (.tuple #[.slice p_k23 (vL 0 n) c_k23, .int .i64 (vE n)]) rfl (fun _ => by kernel_rfl) ?_
    simp only [Act.put, List.setIfInBounds_toArray, List.set_cons_zero, List.set_cons_succ]
    refine pureL (.slice p_k23 (vL 0 n) c_k23) rfl (fun _ => by kernel_rfl) ?_
    simp only [Act.put, List.setIfInBounds_toArray, List.set_cons_zero, List.set_cons_succ]
    refine pureL (.int .i64 (vE n)) rfl (fun _ => by kernel_rfl) ?_
    simp only [Act.put, List.setIfInBounds_toArray, List.set_cons_zero, List.set_cons_succ]
    refine pureL (.slice p_k23 (vL 0 n) c_k23) rfl (fun _ => by kernel_rfl) ?_
    simp only [Act.put, List.setIfInBounds_toArray, List.set_cons_zero, List.set_cons_succ]
    refine pureL (.int .i64 (vE n)) rfl (fun _ => by kernel_rfl) ?_
    simp only [Act.put, List.setIfInBounds_toArray, List.set_cons_zero, List.set_cons_succ]
    show Exit.then _ _ _ _ _
    go_upto_region 3 with fail
    refine wp_region_list ?_
    refine pureL (.int .i64 (vE n)) rfl (fun _ => by kernel_rfl) ?_
    simp only [Act.put, List.setIfInBounds_toArray, List.set_cons_zero, List.set_cons_succ]
    refine pureL (.bool false) rfl (fun w => eqlI .i64 _ _ _ _ _ _ rfl rfl rfl false (by rw [e1]; decide) w) ?_
    simp only [Act.put, List.setIfInBounds_toArray, List.set_cons_zero, List.set_cons_succ]
    show Exit.then _ _ _ _ _
    go_upto_region 7 with fail
    refine wp_region_list ?_
    refine pureL (.slice sp len cap) rfl (fun _ => by kernel_rfl) ?_
    simp only [Act.put, List.setIfInBounds_toArray, List.set_cons_zero, List.set_cons_succ]
    refine callL rfl (fun _ => by kernel_rfl) (hTV (sp) (len) (cap) (by omega) hcb hnb (z) hib _ (hsb.below K.below (Nat.le_refl _))) ?_
    rintro e w3 ⟨⟨p_k24, c_k24, rfl, s_k24⟩, l⟩
    replace K := K.call l
    replace O_k23 := O_k23.below l
    replace s_k23 := s_k23.below l (Nat.le_refl _)
    clear l
    refine ⟨_, rfl, ?_⟩
    simp only [Act.put, List.setIfInBounds_toArray, List.set_cons_zero, List.set_cons_succ]
    refine pureL (.tuple #[.int .i64 (tN len z), .slice p_k24 (tL len z) c_k24, .int .i64 (tE len z)]) rfl (fun _ => by kernel_rfl) ?_
    simp only [Act.put, List.setIfInBounds_toArray, List.set_cons_zero, List.set_cons_succ]
    refine pureL (.int .i64 (tN len z)) rfl (fun _ => by kernel_rfl) ?_
    simp only [Act.put, List.setIfInBounds_toArray, List.set_cons_zero, List.set_cons_succ]
    refine pureL (.slice p_k24 (tL len z) c_k24) rfl (fun _ => by kernel_rfl) ?_
    simp only [Act.put, List.setIfInBounds_toArray, List.set_cons_zero, List.set_cons_succ]
    refine pureL (.int .i64 (tE len z)) rfl (fun _ => by kernel_rfl) ?_
    simp only [Act.put, List.setIfInBounds_toArray, List.set_cons_zero, List.set_cons_succ]
    refine pureL (.int .i64 (tN len z)) rfl (fun _ => by kernel_rfl) ?_
    simp only [Act.put, List.setIfInBounds_toArray, List.set_cons_zero, List.set_cons_succ]
    refine pureL (.slice p_k24 (tL len z) c_k24) rfl (fun _ => by kernel_rfl) ?_
    simp only [Act.put, List.setIfInBounds_toArray, List.set_cons_zero, List.set_cons_succ]
    refine pureL (.int .i64 (tE len z)) rfl (fun _ => by kernel_rfl) ?_
    simp only [Act.put, List.setIfInBounds_toArray, List.set_cons_zero, List.set_cons_succ]
    show Exit.then _ _ _ _ _
    by_cases hT : tE len z = 0
    · obtain ⟨q0, q1, q2, q3, q4, q5⟩ := put_take len z hib hT
      have e3 : vE (tN len z) = 0 := by unfold vE; rw [if_neg (by unfold vbad; omega)]
      have e4 : vL 0 (tN len z) = tK (z 0) := by unfold vL; rw [if_neg (by unfold vbad; omega), q2, Nat.zero_add]
      go_upto_region 8 with fail
      refine wp_region_list ?_
      refine pureL (.int .i64 (tE len z)) rfl (fun _ => by kernel_rfl) ?_
      simp only [Act.put, List.setIfInBounds_toArray, List.set_cons_zero, List.set_cons_succ]
      refine pureL (.bool false) rfl (fun w => neqI .i64 _ _ _ _ _ _ rfl rfl rfl false (by simp [hT]) w) ?_
      simp only [Act.put, List.setIfInBounds_toArray, List.set_cons_zero, List.set_cons_succ]
      show Exit.then _ _ _ _ _
      go_upto_region 10 with fail
      refine wp_region_list ?_
      refine pureL (.int .i64 (tN len z)) rfl (fun _ => by kernel_rfl) ?_
      simp only [Act.put, List.setIfInBounds_toArray, List.set_cons_zero, List.set_cons_succ]
      have z_k25 := K.size
      refine callL rfl (fun _ => by kernel_rfl) (hPV (none) (0) (0) (by decide) (by decide) (fun _ => rfl) (z0) (z0_in 0) (tN len z) (by omega) _ (fun j hj => absurd hj (Nat.not_lt_zero j))) ?_
      rintro e w4 ⟨⟨v_k25, rfl, O_k25⟩, l⟩
      replace K := K.call l
      replace O_k23 := O_k23.below l
      replace s_k23 := s_k23.below l (Nat.le_refl _)
      replace s_k24 := s_k24.below l (Nat.le_refl _)
      have b_k25 := l.size
      clear l
      rw [e3]
      rw [e4] at O_k25
      obtain ⟨p_k25, c_k25, rfl, le_k25, s_k25⟩ := O_k25.bytes
      have nil_k25 := O_k25.nilCap
      refine ⟨_, rfl, ?_⟩
      simp only [Act.put, List.setIfInBounds_toArray, List.set_cons_zero, List.set_cons_succ]
      refine pureL (.tuple #[.slice p_k25 (tK (z 0)) c_k25, .int .i64 0]) rfl (fun _ => by kernel_rfl) ?_
      simp only [Act.put, List.setIfInBounds_toArray, List.set_cons_zero, List.set_cons_succ]
      refine pureL (.slice p_k25 (tK (z 0)) c_k25) rfl (fun _ => by kernel_rfl) ?_
      simp only [Act.put, List.setIfInBounds_toArray, List.set_cons_zero, List.set_cons_succ]
      refine pureL (.int .i64 0) rfl (fun _ => by kernel_rfl) ?_
      simp only [Act.put, List.setIfInBounds_toArray, List.set_cons_zero, List.set_cons_succ]
      refine pureL (.slice p_k25 (tK (z 0)) c_k25) rfl (fun _ => by kernel_rfl) ?_
      simp only [Act.put, List.setIfInBounds_toArray, List.set_cons_zero, List.set_cons_succ]
      refine pureL (.int .i64 0) rfl (fun _ => by kernel_rfl) ?_
      simp only [Act.put, List.setIfInBounds_toArray, List.set_cons_zero, List.set_cons_succ]
      show Exit.then _ _ _ _ _
      go_upto_region 11 with fail
      refine wp_region_list ?_
      refine pureL (.bool true) rfl (fun _ => by kernel_rfl) ?_
      simp only [Act.put, List.setIfInBounds_toArray, List.set_cons_zero, List.set_cons_succ]
      refine pureL (.bool true) rfl (fun _ => by kernel_rfl) ?_
      simp only [Act.put, List.setIfInBounds_toArray, List.set_cons_zero, List.set_cons_succ]
      refine pureL (.int .i64 0) rfl (fun _ => by kernel_rfl) ?_
      simp only [Act.put, List.setIfInBounds_toArray, List.set_cons_zero, List.set_cons_succ]
      refine pureL (.bool true) rfl (fun w => eqlI .i64 _ _ _ _ _ _ rfl rfl rfl true (by decide) w) ?_
      simp only [Act.put, List.setIfInBounds_toArray, List.set_cons_zero, List.set_cons_succ]
      refine pureL (.bool true) rfl (fun _ => by kernel_rfl) ?_
      simp only [Act.put, List.setIfInBounds_toArray, List.set_cons_zero, List.set_cons_succ]
      refine pureL (.bool true) rfl (fun _ => by kernel_rfl) ?_
      simp only [Act.put, List.setIfInBounds_toArray, List.set_cons_zero, List.set_cons_succ]
      refine pureL (.slice p_k25 (tK (z 0)) c_k25) rfl (fun _ => by kernel_rfl) ?_
      simp only [Act.put, List.setIfInBounds_toArray, List.set_cons_zero, List.set_cons_succ]
      refine readL (.string (txt ((tK (z 0))) (vput 0 z0 (tN len z)))) rfl (conv_txt 22 5 9 _ rfl Try.underlying22 Try.underlying5 Try.underlying9 (p_k25) ((tK (z 0))) (c_k25) (vput 0 z0 (tN len z)) rfl _ (s_k25) (Src.none (s_k25))) ?_
      simp only [Act.put, List.setIfInBounds_toArray, List.set_cons_zero, List.set_cons_succ]
      refine pureL (.slice p_k24 (tL len z) c_k24) rfl (fun _ => by kernel_rfl) ?_
      simp only [Act.put, List.setIfInBounds_toArray, List.set_cons_zero, List.set_cons_succ]
      refine readL (.string (txt (tL len z) (tR z))) rfl (conv_txt 22 5 9 _ rfl Try.underlying22 Try.underlying5 Try.underlying9 (p_k24) (tL len z) (c_k24) (tR z) rfl _ (s_k24) (Src.none (s_k24))) ?_
      simp only [Act.put, List.setIfInBounds_toArray, List.set_cons_zero, List.set_cons_succ]
      refine pureL (.string (txt (len) (z))) rfl (fun w => addS _ _ _ _ _ _ _ rfl rfl rfl (by rw [txt_size, txt_size]; omega) (by
        rw [txt_congr (z := vput 0 z0 (tN len z)) (y := z) (fun j hj => by unfold vput app; rw [if_neg (Nat.not_lt_zero j), Nat.sub_zero]; exact q5 j hj), q3]
        show txt (tK (z 0)) z ++ txt (len - tK (z 0)) (fun j => z (tK (z 0) + j)) = txt len z
        rw [txt_add, show tK (z 0) + (len - tK (z 0)) = len by omega]) w) ?_
      simp only [Act.put, List.setIfInBounds_toArray, List.set_cons_zero, List.set_cons_succ]
      refine pureL (.slice sp len cap) rfl (fun _ => by kernel_rfl) ?_
      simp only [Act.put, List.setIfInBounds_toArray, List.set_cons_zero, List.set_cons_succ]
      refine readL (.string (txt (len) (z))) rfl (conv_txt 22 5 9 _ rfl Try.underlying22 Try.underlying5 Try.underlying9 (sp) (len) (cap) (z) rfl _ ((hsb.below K.below (Nat.le_refl _))) (Src.none ((hsb.below K.below (Nat.le_refl _))))) ?_
      simp only [Act.put, List.setIfInBounds_toArray, List.set_cons_zero, List.set_cons_succ]
      refine pureL (.bool true) rfl (fun w => eqlS _ _ _ _ _ _ rfl rfl rfl rfl w) ?_
      simp only [Act.put, List.setIfInBounds_toArray, List.set_cons_zero, List.set_cons_succ]
      refine pureL (.bool true) rfl (fun _ => by kernel_rfl) ?_
      simp only [Act.put, List.setIfInBounds_toArray, List.set_cons_zero, List.set_cons_succ]
      refine pureL (.bool true) rfl (fun _ => by kernel_rfl) ?_
      simp only [Act.put, List.setIfInBounds_toArray, List.set_cons_zero, List.set_cons_succ]
      show Exit.then _ _ _ _ _
      have hB := K.below
      clear K q5
      go_wp2
      go_ret
      exact ⟨rfl, hB⟩
    · go_upto_region 8 with fail
      refine wp_region_list ?_
      refine pureL (.int .i64 (tE len z)) rfl (fun _ => by kernel_rfl) ?_
      simp only [Act.put, List.setIfInBounds_toArray, List.set_cons_zero, List.set_cons_succ]
      refine pureL (.bool true) rfl (fun w => neqI .i64 _ _ _ _ _ _ rfl rfl rfl true (by simp [hT]) w) ?_
      simp only [Act.put, List.setIfInBounds_toArray, List.set_cons_zero, List.set_cons_succ]
      show Exit.then _ _ _ _ _
      have hB := K.below
      clear K
      go_wp2
      go_ret
      exact ⟨rfl, hB⟩
  · have e1 : vE n = 0 := by unfold vE; rw [if_neg hb]
    have e2 : vL 0 n = vsz n.toNat := by unfold vL; rw [if_neg hb, Nat.zero_add]
    unfold vbad at hb
    obtain ⟨n, rfl⟩ := Int.eq_ofNat_of_zero_le (show 0 ≤ n by omega)
    rw [Int.toNat_natCast] at e2
    have hv8 := vsz_le n
    have K := Kr.init w
    go_enter Try.func7, Try.ntmps7
    go_upto_region 1 with fail
    refine wp_region_list ?_
    refine callL rfl (fun _ => by kernel_rfl) (vshown_any hPV hTV hPF hTF hPB hTB _) ?_
    rintro e w1 ⟨rfl, l⟩
    replace K := K.call l
    clear l
    refine ⟨_, rfl, ?_⟩
    simp only [Act.put, List.setIfInBounds_toArray, List.set_cons_zero, List.set_cons_succ]
    refine pureL (.bool true) rfl (fun _ => by kernel_rfl) ?_
    simp only [Act.put, List.setIfInBounds_toArray, List.set_cons_zero, List.set_cons_succ]
    show Exit.then _ _ _ _ _
    go_upto_region 2 with fail
    refine wp_region_list ?_
    refine pureL (.int .i64 ((n : Nat) : Int)) rfl (fun _ => by kernel_rfl) ?_
    simp only [Act.put, List.setIfInBounds_toArray, List.set_cons_zero, List.set_cons_succ]
    have z_k26 := K.size
    refine callL rfl (fun _ => by kernel_rfl) (hPV (none) (0) (0) (by decide) (by decide) (fun _ => rfl) (z0) (z0_in 0) ((n : Nat) : Int) (by omega) _ (fun j hj => absurd hj (Nat.not_lt_zero j))) ?_
    rintro e w2 ⟨⟨v_k26, rfl, O_k26⟩, l⟩
    replace K := K.call l
    have b_k26 := l.size
    clear l
    rw [e1]
    rw [e2] at O_k26
    obtain ⟨p_k26, c_k26, rfl, le_k26, s_k26⟩ := O_k26.bytes
    have nil_k26 := O_k26.nilCap
    refine ⟨_, rfl, ?_⟩
    simp only [Act.put, List.setIfInBounds_toArray, List.set_cons_zero, List.set_cons_succ]
    refine pureL (.tuple #[.slice p_k26 (vsz n) c_k26, .int .i64 0]) rfl (fun _ => by kernel_rfl) ?_
    simp only [Act.put, List.setIfInBounds_toArray, List.set_cons_zero, List.set_cons_succ]
    refine pureL (.slice p_k26 (vsz n) c_k26) rfl (fun _ => by kernel_rfl) ?_
    simp only [Act.put, List.setIfInBounds_toArray, List.set_cons_zero, List.set_cons_succ]
    refine pureL (.int .i64 0) rfl (fun _ => by kernel_rfl) ?_
    simp only [Act.put, List.setIfInBounds_toArray, List.set_cons_zero, List.set_cons_succ]
    refine pureL (.slice p_k26 (vsz n) c_k26) rfl (fun _ => by kernel_rfl) ?_
    simp only [Act.put, List.setIfInBounds_toArray, List.set_cons_zero, List.set_cons_succ]
    refine pureL (.int .i64 0) rfl (fun _ => by kernel_rfl) ?_
    simp only [Act.put, List.setIfInBounds_toArray, List.set_cons_zero, List.set_cons_succ]
    show Exit.then _ _ _ _ _
    go_upto_region 3 with fail
    refine wp_region_list ?_
    refine pureL (.int .i64 0) rfl (fun _ => by kernel_rfl) ?_
    simp only [Act.put, List.setIfInBounds_toArray, List.set_cons_zero, List.set_cons_succ]
    refine pureL (.bool true) rfl (fun w => eqlI .i64 _ _ _ _ _ _ rfl rfl rfl true (by decide) w) ?_
    simp only [Act.put, List.setIfInBounds_toArray, List.set_cons_zero, List.set_cons_succ]
    show Exit.then _ _ _ _ _
    have hP := take_put n (by omega) len (app (vby n) (vsz n) z) (fun j hj => by unfold app; rw [if_pos hj])
    go_upto_region 4 with fail
    refine wp_region_list ?_
    refine pureL (.slice p_k26 (vsz n) c_k26) rfl (fun _ => by kernel_rfl) ?_
    simp only [Act.put, List.setIfInBounds_toArray, List.set_cons_zero, List.set_cons_succ]
    refine pureL (.slice sp len cap) rfl (fun _ => by kernel_rfl) ?_
    simp only [Act.put, List.setIfInBounds_toArray, List.set_cons_zero, List.set_cons_succ]
    obtain ⟨vw3, w3, hr, O_w3, hgr, _⟩ := run_append_Own (P := Try.prog) (ty := 22) Try.underlying22 one8 O_k26 (sp) (len) (cap) (z) (hsb.below K.below (Nat.le_refl _)) hnb (by unfold maxLen; omega) (by omega) b_k26
    replace K := K.grown hgr (fun b hb => Nat.le_trans z_k26 (World.ownsRow.lt O_k26 b hb).1)
    refine actL vw3 rfl (appendOp _ _ 22 _ _ _ rfl rfl rfl hr) ?_
    simp only [Act.put, List.setIfInBounds_toArray, List.set_cons_zero, List.set_cons_succ]
    replace O_w3 : Own w3 w1.heap.size 5 .u8 (vsz n + len) (app (vby n) (vsz n) z) vw3 := by
      skip
      exact O_w3.congr (fun j _ => by unfold vput app; rw [Int.toNat_natCast]; by_cases e : j < vsz n; rw [if_pos e, if_pos e, if_neg (Nat.not_lt_zero j), Nat.sub_zero]; rw [if_neg e, if_neg e])
    obtain ⟨p_w3, c_w3, rfl, le_w3, s_w3⟩ := O_w3.bytes
    have nil_w3 := O_w3.nilCap
    clear hr hgr
    refine callL rfl (fun _ => by kernel_rfl) (hTV (p_w3) (vsz n + len) (c_w3) (by omega) le_w3 nil_w3 (app (vby n) (vsz n) z) (vapp_in (vby_in n (by omega) _) hib) _ s_w3) ?_
    rintro e w4 ⟨⟨p_k27, c_k27, rfl, s_k27⟩, l⟩
    replace K := K.call l
    replace s_w3 := s_w3.below l (Nat.le_refl _)
    replace O_w3 := O_w3.below l
    clear l
    rw [hP.2.2.1, hP.2.1]
    rw [hP.2.2.2] at s_k27 ⊢
    replace s_k27 := s_k27.congr (y := z) (fun j _ => by unfold tR; rw [hP.1]; unfold app; rw [if_neg (by omega), show vsz n + j - vsz n = j by omega])
    refine ⟨_, rfl, ?_⟩
    simp only [Act.put, List.setIfInBounds_toArray, List.set_cons_zero, List.set_cons_succ]
    refine pureL (.tuple #[.int .i64 ((n : Nat) : Int), .slice p_k27 len c_k27, .int .i64 0]) rfl (fun _ => by kernel_rfl) ?_
    simp only [Act.put, List.setIfInBounds_toArray, List.set_cons_zero, List.set_cons_succ]
    refine pureL (.int .i64 ((n : Nat) : Int)) rfl (fun _ => by kernel_rfl) ?_
    simp only [Act.put, List.setIfInBounds_toArray, List.set_cons_zero, List.set_cons_succ]
    refine pureL (.slice p_k27 len c_k27) rfl (fun _ => by kernel_rfl) ?_
    simp only [Act.put, List.setIfInBounds_toArray, List.set_cons_zero, List.set_cons_succ]
    refine pureL (.int .i64 0) rfl (fun _ => by kernel_rfl) ?_
    simp only [Act.put, List.setIfInBounds_toArray, List.set_cons_zero, List.set_cons_succ]
    refine pureL (.int .i64 ((n : Nat) : Int)) rfl (fun _ => by kernel_rfl) ?_
    simp only [Act.put, List.setIfInBounds_toArray, List.set_cons_zero, List.set_cons_succ]
    refine pureL (.slice p_k27 len c_k27) rfl (fun _ => by kernel_rfl) ?_
    simp only [Act.put, List.setIfInBounds_toArray, List.set_cons_zero, List.set_cons_succ]
    refine pureL (.int .i64 0) rfl (fun _ => by kernel_rfl) ?_
    simp only [Act.put, List.setIfInBounds_toArray, List.set_cons_zero, List.set_cons_succ]
    show Exit.then _ _ _ _ _
    go_upto_region 5 with fail
    refine wp_region_list ?_
    refine pureL (.int .i64 0) rfl (fun _ => by kernel_rfl) ?_
    simp only [Act.put, List.setIfInBounds_toArray, List.set_cons_zero, List.set_cons_succ]
    refine pureL (.bool false) rfl (fun w => neqI .i64 _ _ _ _ _ _ rfl rfl rfl false (by decide) w) ?_
    simp only [Act.put, List.setIfInBounds_toArray, List.set_cons_zero, List.set_cons_succ]
    refine pureL (.bool false) rfl (fun _ => by kernel_rfl) ?_
    simp only [Act.put, List.setIfInBounds_toArray, List.set_cons_zero, List.set_cons_succ]
    refine pureL (.int .i64 ((n : Nat) : Int)) rfl (fun _ => by kernel_rfl) ?_
    simp only [Act.put, List.setIfInBounds_toArray, List.set_cons_zero, List.set_cons_succ]
    refine pureL (.int .i64 ((n : Nat) : Int)) rfl (fun _ => by kernel_rfl) ?_
    simp only [Act.put, List.setIfInBounds_toArray, List.set_cons_zero, List.set_cons_succ]
    refine pureL (.bool false) rfl (fun w => neqI .i64 _ _ _ _ _ _ rfl rfl rfl false (bne_self_eq_false _) w) ?_
    simp only [Act.put, List.setIfInBounds_toArray, List.set_cons_zero, List.set_cons_succ]
    refine pureL (.bool false) rfl (fun _ => by kernel_rfl) ?_
    simp only [Act.put, List.setIfInBounds_toArray, List.set_cons_zero, List.set_cons_succ]
    refine pureL (.bool false) rfl (fun _ => by kernel_rfl) ?_
    simp only [Act.put, List.setIfInBounds_toArray, List.set_cons_zero, List.set_cons_succ]
    refine pureL (.slice p_k27 len c_k27) rfl (fun _ => by kernel_rfl) ?_
    simp only [Act.put, List.setIfInBounds_toArray, List.set_cons_zero, List.set_cons_succ]
    refine readL (.string (txt (len) (z))) rfl (conv_txt 22 5 9 _ rfl Try.underlying22 Try.underlying5 Try.underlying9 (p_k27) (len) (c_k27) (z) rfl _ (s_k27) (Src.none (s_k27))) ?_
    simp only [Act.put, List.setIfInBounds_toArray, List.set_cons_zero, List.set_cons_succ]
    refine pureL (.slice sp len cap) rfl (fun _ => by kernel_rfl) ?_
    simp only [Act.put, List.setIfInBounds_toArray, List.set_cons_zero, List.set_cons_succ]
    refine readL (.string (txt (len) (z))) rfl (conv_txt 22 5 9 _ rfl Try.underlying22 Try.underlying5 Try.underlying9 (sp) (len) (cap) (z) rfl _ ((hsb.below K.below (Nat.le_refl _))) (Src.none ((hsb.below K.below (Nat.le_refl _))))) ?_
    simp only [Act.put, List.setIfInBounds_toArray, List.set_cons_zero, List.set_cons_succ]
    refine pureL (.bool false) rfl (fun w => neqS _ _ _ _ _ _ rfl rfl rfl rfl w) ?_
    simp only [Act.put, List.setIfInBounds_toArray, List.set_cons_zero, List.set_cons_succ]
    refine pureL (.bool false) rfl (fun _ => by kernel_rfl) ?_
    simp only [Act.put, List.setIfInBounds_toArray, List.set_cons_zero, List.set_cons_succ]
    show Exit.then _ _ _ _ _
    clear hP
    go_upto_region 7 with fail
    refine wp_region_list ?_
    refine pureL (.slice sp len cap) rfl (fun _ => by kernel_rfl) ?_
    simp only [Act.put, List.setIfInBounds_toArray, List.set_cons_zero, List.set_cons_succ]
    refine callL rfl (fun _ => by kernel_rfl) (hTV (sp) (len) (cap) (by omega) hcb hnb (z) hib _ (hsb.below K.below (Nat.le_refl _))) ?_
    rintro e w5 ⟨⟨p_k28, c_k28, rfl, s_k28⟩, l⟩
    replace K := K.call l
    replace s_w3 := s_w3.below l (Nat.le_refl _)
    replace O_w3 := O_w3.below l
    replace s_k27 := s_k27.below l (Nat.le_refl _)
    clear l
    refine ⟨_, rfl, ?_⟩
    simp only [Act.put, List.setIfInBounds_toArray, List.set_cons_zero, List.set_cons_succ]
    refine pureL (.tuple #[.int .i64 (tN len z), .slice p_k28 (tL len z) c_k28, .int .i64 (tE len z)]) rfl (fun _ => by kernel_rfl) ?_
    simp only [Act.put, List.setIfInBounds_toArray, List.set_cons_zero, List.set_cons_succ]
    refine pureL (.int .i64 (tN len z)) rfl (fun _ => by kernel_rfl) ?_
    simp only [Act.put, List.setIfInBounds_toArray, List.set_cons_zero, List.set_cons_succ]
    refine pureL (.slice p_k28 (tL len z) c_k28) rfl (fun _ => by kernel_rfl) ?_
    simp only [Act.put, List.setIfInBounds_toArray, List.set_cons_zero, List.set_cons_succ]
    refine pureL (.int .i64 (tE len z)) rfl (fun _ => by kernel_rfl) ?_
    simp only [Act.put, List.setIfInBounds_toArray, List.set_cons_zero, List.set_cons_succ]
    refine pureL (.int .i64 (tN len z)) rfl (fun _ => by kernel_rfl) ?_
    simp only [Act.put, List.setIfInBounds_toArray, List.set_cons_zero, List.set_cons_succ]
    refine pureL (.slice p_k28 (tL len z) c_k28) rfl (fun _ => by kernel_rfl) ?_
    simp only [Act.put, List.setIfInBounds_toArray, List.set_cons_zero, List.set_cons_succ]
    refine pureL (.int .i64 (tE len z)) rfl (fun _ => by kernel_rfl) ?_
    simp only [Act.put, List.setIfInBounds_toArray, List.set_cons_zero, List.set_cons_succ]
    show Exit.then _ _ _ _ _
    by_cases hT : tE len z = 0
    · obtain ⟨q0, q1, q2, q3, q4, q5⟩ := put_take len z hib hT
      have e3 : vE (tN len z) = 0 := by unfold vE; rw [if_neg (by unfold vbad; omega)]
      have e4 : vL 0 (tN len z) = tK (z 0) := by unfold vL; rw [if_neg (by unfold vbad; omega), q2, Nat.zero_add]
      go_upto_region 8 with fail
      refine wp_region_list ?_
      refine pureL (.int .i64 (tE len z)) rfl (fun _ => by kernel_rfl) ?_
      simp only [Act.put, List.setIfInBounds_toArray, List.set_cons_zero, List.set_cons_succ]
      refine pureL (.bool false) rfl (fun w => neqI .i64 _ _ _ _ _ _ rfl rfl rfl false (by simp [hT]) w) ?_
      simp only [Act.put, List.setIfInBounds_toArray, List.set_cons_zero, List.set_cons_succ]
      show Exit.then _ _ _ _ _
      go_upto_region 10 with fail
      refine wp_region_list ?_
      refine pureL (.int .i64 (tN len z)) rfl (fun _ => by kernel_rfl) ?_
      simp only [Act.put, List.setIfInBounds_toArray, List.set_cons_zero, List.set_cons_succ]
      have z_k29 := K.size
      refine callL rfl (fun _ => by kernel_rfl) (hPV (none) (0) (0) (by decide) (by decide) (fun _ => rfl) (z0) (z0_in 0) (tN len z) (by omega) _ (fun j hj => absurd hj (Nat.not_lt_zero j))) ?_
      rintro e w6 ⟨⟨v_k29, rfl, O_k29⟩, l⟩
      replace K := K.call l
      replace s_w3 := s_w3.below l (Nat.le_refl _)
      replace O_w3 := O_w3.below l
      replace s_k27 := s_k27.below l (Nat.le_refl _)
      replace s_k28 := s_k28.below l (Nat.le_refl _)
      have b_k29 := l.size
      clear l
      rw [e3]
      rw [e4] at O_k29
      obtain ⟨p_k29, c_k29, rfl, le_k29, s_k29⟩ := O_k29.bytes
      have nil_k29 := O_k29.nilCap
      refine ⟨_, rfl, ?_⟩
      simp only [Act.put, List.setIfInBounds_toArray, List.set_cons_zero, List.set_cons_succ]
      refine pureL (.tuple #[.slice p_k29 (tK (z 0)) c_k29, .int .i64 0]) rfl (fun _ => by kernel_rfl) ?_
      simp only [Act.put, List.setIfInBounds_toArray, List.set_cons_zero, List.set_cons_succ]
      refine pureL (.slice p_k29 (tK (z 0)) c_k29) rfl (fun _ => by kernel_rfl) ?_
      simp only [Act.put, List.setIfInBounds_toArray, List.set_cons_zero, List.set_cons_succ]
      refine pureL (.int .i64 0) rfl (fun _ => by kernel_rfl) ?_
      simp only [Act.put, List.setIfInBounds_toArray, List.set_cons_zero, List.set_cons_succ]
      refine pureL (.slice p_k29 (tK (z 0)) c_k29) rfl (fun _ => by kernel_rfl) ?_
      simp only [Act.put, List.setIfInBounds_toArray, List.set_cons_zero, List.set_cons_succ]
      refine pureL (.int .i64 0) rfl (fun _ => by kernel_rfl) ?_
      simp only [Act.put, List.setIfInBounds_toArray, List.set_cons_zero, List.set_cons_succ]
      show Exit.then _ _ _ _ _
      go_upto_region 11 with fail
      refine wp_region_list ?_
      refine pureL (.bool true) rfl (fun _ => by kernel_rfl) ?_
      simp only [Act.put, List.setIfInBounds_toArray, List.set_cons_zero, List.set_cons_succ]
      refine pureL (.bool true) rfl (fun _ => by kernel_rfl) ?_
      simp only [Act.put, List.setIfInBounds_toArray, List.set_cons_zero, List.set_cons_succ]
      refine pureL (.int .i64 0) rfl (fun _ => by kernel_rfl) ?_
      simp only [Act.put, List.setIfInBounds_toArray, List.set_cons_zero, List.set_cons_succ]
      refine pureL (.bool true) rfl (fun w => eqlI .i64 _ _ _ _ _ _ rfl rfl rfl true (by decide) w) ?_
      simp only [Act.put, List.setIfInBounds_toArray, List.set_cons_zero, List.set_cons_succ]
      refine pureL (.bool true) rfl (fun _ => by kernel_rfl) ?_
      simp only [Act.put, List.setIfInBounds_toArray, List.set_cons_zero, List.set_cons_succ]
      refine pureL (.bool true) rfl (fun _ => by kernel_rfl) ?_
      simp only [Act.put, List.setIfInBounds_toArray, List.set_cons_zero, List.set_cons_succ]
      refine pureL (.slice p_k29 (tK (z 0)) c_k29) rfl (fun _ => by kernel_rfl) ?_
      simp only [Act.put, List.setIfInBounds_toArray, List.set_cons_zero, List.set_cons_succ]
      refine readL (.string (txt ((tK (z 0))) (vput 0 z0 (tN len z)))) rfl (conv_txt 22 5 9 _ rfl Try.underlying22 Try.underlying5 Try.underlying9 (p_k29) ((tK (z 0))) (c_k29) (vput 0 z0 (tN len z)) rfl _ (s_k29) (Src.none (s_k29))) ?_
      simp only [Act.put, List.setIfInBounds_toArray, List.set_cons_zero, List.set_cons_succ]
      refine pureL (.slice p_k28 (tL len z) c_k28) rfl (fun _ => by kernel_rfl) ?_
      simp only [Act.put, List.setIfInBounds_toArray, List.set_cons_zero, List.set_cons_succ]
      refine readL (.string (txt (tL len z) (tR z))) rfl (conv_txt 22 5 9 _ rfl Try.underlying22 Try.underlying5 Try.underlying9 (p_k28) (tL len z) (c_k28) (tR z) rfl _ (s_k28) (Src.none (s_k28))) ?_
      simp only [Act.put, List.setIfInBounds_toArray, List.set_cons_zero, List.set_cons_succ]
      refine pureL (.string (txt (len) (z))) rfl (fun w => addS _ _ _ _ _ _ _ rfl rfl rfl (by rw [txt_size, txt_size]; omega) (by
        rw [txt_congr (z := vput 0 z0 (tN len z)) (y := z) (fun j hj => by unfold vput app; rw [if_neg (Nat.not_lt_zero j), Nat.sub_zero]; exact q5 j hj), q3]
        show txt (tK (z 0)) z ++ txt (len - tK (z 0)) (fun j => z (tK (z 0) + j)) = txt len z
        rw [txt_add, show tK (z 0) + (len - tK (z 0)) = len by omega]) w) ?_
      simp only [Act.put, List.setIfInBounds_toArray, List.set_cons_zero, List.set_cons_succ]
      refine pureL (.slice sp len cap) rfl (fun _ => by kernel_rfl) ?_
      simp only [Act.put, List.setIfInBounds_toArray, List.set_cons_zero, List.set_cons_succ]
      refine readL (.string (txt (len) (z))) rfl (conv_txt 22 5 9 _ rfl Try.underlying22 Try.underlying5 Try.underlying9 (sp) (len) (cap) (z) rfl _ ((hsb.below K.below (Nat.le_refl _))) (Src.none ((hsb.below K.below (Nat.le_refl _))))) ?_
      simp only [Act.put, List.setIfInBounds_toArray, List.set_cons_zero, List.set_cons_succ]
      refine pureL (.bool true) rfl (fun w => eqlS _ _ _ _ _ _ rfl rfl rfl rfl w) ?_
      simp only [Act.put, List.setIfInBounds_toArray, List.set_cons_zero, List.set_cons_succ]
      refine pureL (.bool true) rfl (fun _ => by kernel_rfl) ?_
      simp only [Act.put, List.setIfInBounds_toArray, List.set_cons_zero, List.set_cons_succ]
      refine pureL (.bool true) rfl (fun _ => by kernel_rfl) ?_
      simp only [Act.put, List.setIfInBounds_toArray, List.set_cons_zero, List.set_cons_succ]
      show Exit.then _ _ _ _ _
      have hB := K.below
      clear K q5
      go_wp2
      go_ret
      exact ⟨rfl, hB⟩
    · go_upto_region 8 with fail
      refine wp_region_list ?_
      refine pureL (.int .i64 (tE len z)) rfl (fun _ => by kernel_rfl) ?_
      simp only [Act.put, List.setIfInBounds_toArray, List.set_cons_zero, List.set_cons_succ]
      refine pureL (.bool true) rfl (fun w => neqI .i64 _ _ _ _ _ _ rfl rfl rfl true (by simp [hT]) w) ?_
      simp only [Act.put, List.setIfInBounds_toArray, List.set_cons_zero, List.set_cons_succ]
      show Exit.then _ _ _ _ _
      have hB := K.below
      clear K
      go_wp2
      go_ret
      exact ⟨rfl, hB⟩
end Go.Proofs.Ytogbdoikkmdopaa
