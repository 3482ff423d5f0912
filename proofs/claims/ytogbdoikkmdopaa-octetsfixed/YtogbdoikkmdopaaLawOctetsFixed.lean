/- The walk of OctetsFixed. -/
import Derived.Test.YtogbdoikkmdopaaG2
namespace Go.Proofs.Ytogbdoikkmdopaa
open Go.RowKit

set_option maxRecDepth 10000 in
set_option maxHeartbeats 16000000 in
theorem law_OctetsFixed (hPV : PutVarOK) (hTV : TakeVarOK) (hPF : PutFixedOK) (hTF : TakeFixedOK) (hPB : PutBytesOK) (hTB : TakeBytesOK) (sp : Option Addr) (len cap : Nat) (hlb : len ≤ 140737488351232) (hcb : len ≤ cap) (hnb : sp = none → cap = 0) (z : Nat → Int) (hib : In 256 len z) (n : Int) (hn : -9223372036854775808 ≤ n ∧ n < 9223372036854775808) (s : Int) (hs : -9223372036854775808 ≤ s ∧ s < 9223372036854775808) (w : World) (hsb : Src w sp len z) : Calls Try.prog 5 #[.slice sp len cap, .int .i64 n, .int .i64 s] w fun e w' => e = .returned (.bool true) ∧ Below w.heap.size w w' := by
  by_cases hb : fbad n s
  · have e1 : fE n s = 1 := by unfold fE; rw [if_pos hb]
    have K := Kr.init w
    go_enter Try.func5, Try.ntmps5
    go_upto_region 1 with fail
    refine wp_region_list ?_
    refine callL rfl (fun _ => by kernel_rfl) (vshown_any hPV hTV hPF hTF hPB hTB _) ?_
    rintro e w1 ⟨rfl, l⟩
    replace K := K.call l
    clear l
    refine ⟨_, rfl, ?_⟩
    simp only [Act.put, List.setIfInBounds_toArray, List.set_cons_zero, List.set_cons_succ]
    refine pureL (.bool true) rfl (fun _ => by kernel_rfl) ?_
    simp only [Act.put, List.setIfInBounds_toArray, List.set_cons_zero, List.set_cons_succ]
    show Exit.then _ _ _ _ _
    go_upto_region 2 with fail
    refine wp_region_list ?_
    refine pureL (.slice sp len cap) rfl (fun _ => by kernel_rfl) ?_
    simp only [Act.put, List.setIfInBounds_toArray, List.set_cons_zero, List.set_cons_succ]
    refine pureL (.int .i64 n) rfl (fun _ => by kernel_rfl) ?_
    simp only [Act.put, List.setIfInBounds_toArray, List.set_cons_zero, List.set_cons_succ]
    refine pureL (.int .i64 s) rfl (fun _ => by kernel_rfl) ?_
    simp only [Act.put, List.setIfInBounds_toArray, List.set_cons_zero, List.set_cons_succ]
    have z_k18 := K.size
    refine callL rfl (fun _ => by kernel_rfl) (hPF (sp) (len) (cap) (by omega) hcb hnb (z) hib n (by omega) s (by omega) _ (hsb.below K.below (Nat.le_refl _))) ?_
    rintro e w2 ⟨⟨v_k18, rfl, O_k18⟩, l⟩
    replace K := K.call l
    clear l
    obtain ⟨p_k18, c_k18, rfl, le_k18, s_k18⟩ := O_k18.bytes
    have nil_k18 := O_k18.nilCap
    refine ⟨_, rfl, ?_⟩
    simp only [Act.put, List.setIfInBounds_toArray, List.set_cons_zero, List.set_cons_succ]
    refine pureL (.tuple #[.slice p_k18 (fL len n s) c_k18, .int .i64 (fE n s)]) rfl (fun _ => by kernel_rfl) ?_
    simp only [Act.put, List.setIfInBounds_toArray, List.set_cons_zero, List.set_cons_succ]
    refine pureL (.slice p_k18 (fL len n s) c_k18) rfl (fun _ => by kernel_rfl) ?_
    simp only [Act.put, List.setIfInBounds_toArray, List.set_cons_zero, List.set_cons_succ]
    refine pureL (.int .i64 (fE n s)) rfl (fun _ => by kernel_rfl) ?_
    simp only [Act.put, List.setIfInBounds_toArray, List.set_cons_zero, List.set_cons_succ]
    refine pureL (.slice p_k18 (fL len n s) c_k18) rfl (fun _ => by kernel_rfl) ?_
    simp only [Act.put, List.setIfInBounds_toArray, List.set_cons_zero, List.set_cons_succ]
    refine pureL (.int .i64 (fE n s)) rfl (fun _ => by kernel_rfl) ?_
    simp only [Act.put, List.setIfInBounds_toArray, List.set_cons_zero, List.set_cons_succ]
    show Exit.then _ _ _ _ _
    go_upto_region 3 with fail
    refine wp_region_list ?_
    refine pureL (.slice sp len cap) rfl (fun _ => by kernel_rfl) ?_
    simp only [Act.put, List.setIfInBounds_toArray, List.set_cons_zero, List.set_cons_succ]
    refine pureL (.int .i64 n) rfl (fun _ => by kernel_rfl) ?_
    simp only [Act.put, List.setIfInBounds_toArray, List.set_cons_zero, List.set_cons_succ]
    refine pureL (.int .i64 s) rfl (fun _ => by kernel_rfl) ?_
    simp only [Act.put, List.setIfInBounds_toArray, List.set_cons_zero, List.set_cons_succ]
    have z_k19 := K.size
    refine callL rfl (fun _ => by kernel_rfl) (rputf_any (sp) (len) (cap) (by omega) hcb hnb (z) hib n s (by omega) _ (hsb.below K.below (Nat.le_refl _))) ?_
    rintro e w3 ⟨⟨v_k19, rfl, O_k19⟩, l⟩
    replace K := K.call l
    replace O_k18 := O_k18.below l
    replace s_k18 := s_k18.below l (Nat.le_refl _)
    clear l
    obtain ⟨p_k19, c_k19, rfl, le_k19, s_k19⟩ := O_k19.bytes
    have nil_k19 := O_k19.nilCap
    refine ⟨_, rfl, ?_⟩
    simp only [Act.put, List.setIfInBounds_toArray, List.set_cons_zero, List.set_cons_succ]
    refine pureL (.tuple #[.slice p_k19 (fL len n s) c_k19, .int .i64 (fE n s)]) rfl (fun _ => by kernel_rfl) ?_
    simp only [Act.put, List.setIfInBounds_toArray, List.set_cons_zero, List.set_cons_succ]
    refine pureL (.slice p_k19 (fL len n s) c_k19) rfl (fun _ => by kernel_rfl) ?_
    simp only [Act.put, List.setIfInBounds_toArray, List.set_cons_zero, List.set_cons_succ]
    refine pureL (.int .i64 (fE n s)) rfl (fun _ => by kernel_rfl) ?_
    simp only [Act.put, List.setIfInBounds_toArray, List.set_cons_zero, List.set_cons_succ]
    refine pureL (.slice p_k19 (fL len n s) c_k19) rfl (fun _ => by kernel_rfl) ?_
    simp only [Act.put, List.setIfInBounds_toArray, List.set_cons_zero, List.set_cons_succ]
    refine pureL (.int .i64 (fE n s)) rfl (fun _ => by kernel_rfl) ?_
    simp only [Act.put, List.setIfInBounds_toArray, List.set_cons_zero, List.set_cons_succ]
    show Exit.then _ _ _ _ _
    go_upto_region 4 with fail
    refine wp_region_list ?_
    refine pureL (.bool true) rfl (fun _ => by kernel_rfl) ?_
    simp only [Act.put, List.setIfInBounds_toArray, List.set_cons_zero, List.set_cons_succ]
    refine pureL (.bool false) rfl (fun _ => by kernel_rfl) ?_
    simp only [Act.put, List.setIfInBounds_toArray, List.set_cons_zero, List.set_cons_succ]
    refine pureL (.bool false) rfl (fun _ => by kernel_rfl) ?_
    simp only [Act.put, List.setIfInBounds_toArray, List.set_cons_zero, List.set_cons_succ]
    refine pureL (.slice p_k18 (fL len n s) c_k18) rfl (fun _ => by kernel_rfl) ?_
    simp only [Act.put, List.setIfInBounds_toArray, List.set_cons_zero, List.set_cons_succ]
    refine readL (.string (txt (fL len n s) (fput len z n s))) rfl (conv_txt 22 5 9 _ rfl Try.underlying22 Try.underlying5 Try.underlying9 (p_k18) (fL len n s) (c_k18) (fput len z n s) rfl _ (s_k18) (Src.none (s_k18))) ?_
    simp only [Act.put, List.setIfInBounds_toArray, List.set_cons_zero, List.set_cons_succ]
    refine pureL (.slice p_k19 (fL len n s) c_k19) rfl (fun _ => by kernel_rfl) ?_
    simp only [Act.put, List.setIfInBounds_toArray, List.set_cons_zero, List.set_cons_succ]
    refine readL (.string (txt (fL len n s) (fput len z n s))) rfl (conv_txt 22 5 9 _ rfl Try.underlying22 Try.underlying5 Try.underlying9 (p_k19) (fL len n s) (c_k19) (fput len z n s) rfl _ (s_k19) (Src.none (s_k19))) ?_
    simp only [Act.put, List.setIfInBounds_toArray, List.set_cons_zero, List.set_cons_succ]
    refine pureL (.bool false) rfl (fun w => neqS _ _ _ _ _ _ rfl rfl rfl rfl w) ?_
    simp only [Act.put, List.setIfInBounds_toArray, List.set_cons_zero, List.set_cons_succ]
    refine pureL (.bool false) rfl (fun _ => by kernel_rfl) ?_
    simp only [Act.put, List.setIfInBounds_toArray, List.set_cons_zero, List.set_cons_succ]
    refine pureL (.bool false) rfl (fun _ => by kernel_rfl) ?_
    simp only [Act.put, List.setIfInBounds_toArray, List.set_cons_zero, List.set_cons_succ]
    refine pureL (.int .i64 (fE n s)) rfl (fun _ => by kernel_rfl) ?_
    simp only [Act.put, List.setIfInBounds_toArray, List.set_cons_zero, List.set_cons_succ]
    refine pureL (.int .i64 (fE n s)) rfl (fun _ => by kernel_rfl) ?_
    simp only [Act.put, List.setIfInBounds_toArray, List.set_cons_zero, List.set_cons_succ]
    refine pureL (.bool false) rfl (fun w => neqI .i64 _ _ _ _ _ _ rfl rfl rfl false (bne_self_eq_false _) w) ?_
    simp only [Act.put, List.setIfInBounds_toArray, List.set_cons_zero, List.set_cons_succ]
    refine pureL (.bool false) rfl (fun _ => by kernel_rfl) ?_
    simp only [Act.put, List.setIfInBounds_toArray, List.set_cons_zero, List.set_cons_succ]
    show Exit.then _ _ _ _ _
    go_upto_region 6 with fail
    refine wp_region_list ?_
    refine pureL (.int .i64 (fE n s)) rfl (fun _ => by kernel_rfl) ?_
    simp only [Act.put, List.setIfInBounds_toArray, List.set_cons_zero, List.set_cons_succ]
    refine pureL (.bool true) rfl (fun w => neqI .i64 _ _ _ _ _ _ rfl rfl rfl true (by rw [e1]; decide) w) ?_
    simp only [Act.put, List.setIfInBounds_toArray, List.set_cons_zero, List.set_cons_succ]
    show Exit.then _ _ _ _ _
    have hB := K.below
    clear K
    go_wp2
    go_ret
    exact ⟨rfl, hB⟩
  · have e1 : fE n s = 0 := by unfold fE; rw [if_neg hb]
    have e2 : fL len n s = len + s.toNat := by unfold fL; rw [if_neg hb]
    unfold fbad at hb
    obtain ⟨n, rfl⟩ := Int.eq_ofNat_of_zero_le (show 0 ≤ n by omega)
    obtain ⟨s, rfl⟩ := Int.eq_ofNat_of_zero_le (show 0 ≤ s by omega)
    have h4 : n < 256 ^ s := by
      have e : (256 : Int) ^ ((s : Nat) : Int).toNat = ((256 ^ s : Nat) : Int) := by rw [Int.toNat_natCast]; exact (Int.natCast_pow 256 s).symm
      rw [e] at hb
      omega
    have h1 : 1 ≤ s := by omega
    have h7 : s ≤ 7 := by omega
    rw [Int.toNat_natCast] at e2
    clear hb
    have K := Kr.init w
    go_enter Try.func5, Try.ntmps5
    go_upto_region 1 with fail
    refine wp_region_list ?_
    refine callL rfl (fun _ => by kernel_rfl) (vshown_any hPV hTV hPF hTF hPB hTB _) ?_
    rintro e w1 ⟨rfl, l⟩
    replace K := K.call l
    clear l
    refine ⟨_, rfl, ?_⟩
    simp only [Act.put, List.setIfInBounds_toArray, List.set_cons_zero, List.set_cons_succ]
    refine pureL (.bool true) rfl (fun _ => by kernel_rfl) ?_
    simp only [Act.put, List.setIfInBounds_toArray, List.set_cons_zero, List.set_cons_succ]
    show Exit.then _ _ _ _ _
    go_upto_region 2 with fail
    refine wp_region_list ?_
    refine pureL (.slice sp len cap) rfl (fun _ => by kernel_rfl) ?_
    simp only [Act.put, List.setIfInBounds_toArray, List.set_cons_zero, List.set_cons_succ]
    refine pureL (.int .i64 ((n : Nat) : Int)) rfl (fun _ => by kernel_rfl) ?_
    simp only [Act.put, List.setIfInBounds_toArray, List.set_cons_zero, List.set_cons_succ]
    refine pureL (.int .i64 ((s : Nat) : Int)) rfl (fun _ => by kernel_rfl) ?_
    simp only [Act.put, List.setIfInBounds_toArray, List.set_cons_zero, List.set_cons_succ]
    have z_k20 := K.size
    refine callL rfl (fun _ => by kernel_rfl) (hPF (sp) (len) (cap) (by omega) hcb hnb (z) hib ((n : Nat) : Int) (by omega) ((s : Nat) : Int) (by omega) _ (hsb.below K.below (Nat.le_refl _))) ?_
    rintro e w2 ⟨⟨v_k20, rfl, O_k20⟩, l⟩
    replace K := K.call l
    clear l
    rw [e1]
    rw [e2] at O_k20
    obtain ⟨p_k20, c_k20, rfl, le_k20, s_k20⟩ := O_k20.bytes
    have nil_k20 := O_k20.nilCap
    refine ⟨_, rfl, ?_⟩
    simp only [Act.put, List.setIfInBounds_toArray, List.set_cons_zero, List.set_cons_succ]
    refine pureL (.tuple #[.slice p_k20 (len + s) c_k20, .int .i64 0]) rfl (fun _ => by kernel_rfl) ?_
    simp only [Act.put, List.setIfInBounds_toArray, List.set_cons_zero, List.set_cons_succ]
    refine pureL (.slice p_k20 (len + s) c_k20) rfl (fun _ => by kernel_rfl) ?_
    simp only [Act.put, List.setIfInBounds_toArray, List.set_cons_zero, List.set_cons_succ]
    refine pureL (.int .i64 0) rfl (fun _ => by kernel_rfl) ?_
    simp only [Act.put, List.setIfInBounds_toArray, List.set_cons_zero, List.set_cons_succ]
    refine pureL (.slice p_k20 (len + s) c_k20) rfl (fun _ => by kernel_rfl) ?_
    simp only [Act.put, List.setIfInBounds_toArray, List.set_cons_zero, List.set_cons_succ]
    refine pureL (.int .i64 0) rfl (fun _ => by kernel_rfl) ?_
    simp only [Act.put, List.setIfInBounds_toArray, List.set_cons_zero, List.set_cons_succ]
    show Exit.then _ _ _ _ _
    go_upto_region 3 with fail
    refine wp_region_list ?_
    refine pureL (.slice sp len cap) rfl (fun _ => by kernel_rfl) ?_
    simp only [Act.put, List.setIfInBounds_toArray, List.set_cons_zero, List.set_cons_succ]
    refine pureL (.int .i64 ((n : Nat) : Int)) rfl (fun _ => by kernel_rfl) ?_
    simp only [Act.put, List.setIfInBounds_toArray, List.set_cons_zero, List.set_cons_succ]
    refine pureL (.int .i64 ((s : Nat) : Int)) rfl (fun _ => by kernel_rfl) ?_
    simp only [Act.put, List.setIfInBounds_toArray, List.set_cons_zero, List.set_cons_succ]
    have z_k21 := K.size
    refine callL rfl (fun _ => by kernel_rfl) (rputf_any (sp) (len) (cap) (by omega) hcb hnb (z) hib ((n : Nat) : Int) ((s : Nat) : Int) (by omega) _ (hsb.below K.below (Nat.le_refl _))) ?_
    rintro e w3 ⟨⟨v_k21, rfl, O_k21⟩, l⟩
    replace K := K.call l
    replace O_k20 := O_k20.below l
    replace s_k20 := s_k20.below l (Nat.le_refl _)
    clear l
    rw [e1]
    rw [e2] at O_k21
    obtain ⟨p_k21, c_k21, rfl, le_k21, s_k21⟩ := O_k21.bytes
    have nil_k21 := O_k21.nilCap
    refine ⟨_, rfl, ?_⟩
    simp only [Act.put, List.setIfInBounds_toArray, List.set_cons_zero, List.set_cons_succ]
    refine pureL (.tuple #[.slice p_k21 (len + s) c_k21, .int .i64 0]) rfl (fun _ => by kernel_rfl) ?_
    simp only [Act.put, List.setIfInBounds_toArray, List.set_cons_zero, List.set_cons_succ]
    refine pureL (.slice p_k21 (len + s) c_k21) rfl (fun _ => by kernel_rfl) ?_
    simp only [Act.put, List.setIfInBounds_toArray, List.set_cons_zero, List.set_cons_succ]
    refine pureL (.int .i64 0) rfl (fun _ => by kernel_rfl) ?_
    simp only [Act.put, List.setIfInBounds_toArray, List.set_cons_zero, List.set_cons_succ]
    refine pureL (.slice p_k21 (len + s) c_k21) rfl (fun _ => by kernel_rfl) ?_
    simp only [Act.put, List.setIfInBounds_toArray, List.set_cons_zero, List.set_cons_succ]
    refine pureL (.int .i64 0) rfl (fun _ => by kernel_rfl) ?_
    simp only [Act.put, List.setIfInBounds_toArray, List.set_cons_zero, List.set_cons_succ]
    show Exit.then _ _ _ _ _
    go_upto_region 4 with fail
    refine wp_region_list ?_
    refine pureL (.bool true) rfl (fun _ => by kernel_rfl) ?_
    simp only [Act.put, List.setIfInBounds_toArray, List.set_cons_zero, List.set_cons_succ]
    refine pureL (.bool false) rfl (fun _ => by kernel_rfl) ?_
    simp only [Act.put, List.setIfInBounds_toArray, List.set_cons_zero, List.set_cons_succ]
    refine pureL (.bool false) rfl (fun _ => by kernel_rfl) ?_
    simp only [Act.put, List.setIfInBounds_toArray, List.set_cons_zero, List.set_cons_succ]
    refine pureL (.slice p_k20 (len + s) c_k20) rfl (fun _ => by kernel_rfl) ?_
    simp only [Act.put, List.setIfInBounds_toArray, List.set_cons_zero, List.set_cons_succ]
    refine readL (.string (txt ((len + s)) (fput len z ((n : Nat) : Int) ((s : Nat) : Int)))) rfl (conv_txt 22 5 9 _ rfl Try.underlying22 Try.underlying5 Try.underlying9 (p_k20) ((len + s)) (c_k20) (fput len z ((n : Nat) : Int) ((s : Nat) : Int)) rfl _ (s_k20) (Src.none (s_k20))) ?_
    simp only [Act.put, List.setIfInBounds_toArray, List.set_cons_zero, List.set_cons_succ]
    refine pureL (.slice p_k21 (len + s) c_k21) rfl (fun _ => by kernel_rfl) ?_
    simp only [Act.put, List.setIfInBounds_toArray, List.set_cons_zero, List.set_cons_succ]
    refine readL (.string (txt ((len + s)) (fput len z ((n : Nat) : Int) ((s : Nat) : Int)))) rfl (conv_txt 22 5 9 _ rfl Try.underlying22 Try.underlying5 Try.underlying9 (p_k21) ((len + s)) (c_k21) (fput len z ((n : Nat) : Int) ((s : Nat) : Int)) rfl _ (s_k21) (Src.none (s_k21))) ?_
    simp only [Act.put, List.setIfInBounds_toArray, List.set_cons_zero, List.set_cons_succ]
    refine pureL (.bool false) rfl (fun w => neqS _ _ _ _ _ _ rfl rfl rfl rfl w) ?_
    simp only [Act.put, List.setIfInBounds_toArray, List.set_cons_zero, List.set_cons_succ]
    refine pureL (.bool false) rfl (fun _ => by kernel_rfl) ?_
    simp only [Act.put, List.setIfInBounds_toArray, List.set_cons_zero, List.set_cons_succ]
    refine pureL (.bool false) rfl (fun _ => by kernel_rfl) ?_
    simp only [Act.put, List.setIfInBounds_toArray, List.set_cons_zero, List.set_cons_succ]
    refine pureL (.int .i64 0) rfl (fun _ => by kernel_rfl) ?_
    simp only [Act.put, List.setIfInBounds_toArray, List.set_cons_zero, List.set_cons_succ]
    refine pureL (.int .i64 0) rfl (fun _ => by kernel_rfl) ?_
    simp only [Act.put, List.setIfInBounds_toArray, List.set_cons_zero, List.set_cons_succ]
    refine pureL (.bool false) rfl (fun w => neqI .i64 _ _ _ _ _ _ rfl rfl rfl false (by decide) w) ?_
    simp only [Act.put, List.setIfInBounds_toArray, List.set_cons_zero, List.set_cons_succ]
    refine pureL (.bool false) rfl (fun _ => by kernel_rfl) ?_
    simp only [Act.put, List.setIfInBounds_toArray, List.set_cons_zero, List.set_cons_succ]
    show Exit.then _ _ _ _ _
    go_upto_region 6 with fail
    refine wp_region_list ?_
    refine pureL (.int .i64 0) rfl (fun _ => by kernel_rfl) ?_
    simp only [Act.put, List.setIfInBounds_toArray, List.set_cons_zero, List.set_cons_succ]
    refine pureL (.bool false) rfl (fun w => neqI .i64 _ _ _ _ _ _ rfl rfl rfl false (by decide) w) ?_
    simp only [Act.put, List.setIfInBounds_toArray, List.set_cons_zero, List.set_cons_succ]
    show Exit.then _ _ _ _ _
    obtain ⟨cp, hcut, hcs, hcn⟩ := cut_loN (P := Try.prog) (t := 22) (by kernel_rfl) (fun _ => by kernel_rfl) p_k20 (len + s) c_k20 len (by omega) le_k20 nil_k20
    rw [show len + s - len = s by omega] at hcut hcs
    have s_cut := (hcs _ _ s_k20).congr (y := fby n s) (fun j hj => by unfold fput app; rw [if_neg (by omega), show len + j - len = j by omega]; rfl)
    have hT := take_fixed n s h1 h7 h4 len (app (fby n s) s z) (fun j hj => by unfold app; rw [if_pos hj])
    go_upto_region 8 with fail
    refine wp_region_list ?_
    refine actL (w' := w3.alloc (.cells #[] 5)) (.slice (some ⟨w3.heap.size, 0, none⟩) 0 0) rfl (by kernel_rfl) ?_
    simp only [Act.put, List.setIfInBounds_toArray, List.set_cons_zero, List.set_cons_succ]
    have hb := (Below.refl w3.heap.size w3).alloc (Nat.le_refl _) (.cells #[] 5)
    refine pureL (.slice p_k20 (len + s) c_k20) rfl (fun _ => by kernel_rfl) ?_
    simp only [Act.put, List.setIfInBounds_toArray, List.set_cons_zero, List.set_cons_succ]
    refine pureL (.slice sp len cap) rfl (fun _ => by kernel_rfl) ?_
    simp only [Act.put, List.setIfInBounds_toArray, List.set_cons_zero, List.set_cons_succ]
    refine pureL (.int .i64 ((len : Nat) : Int)) rfl (fun w => lenS _ 22 5 (sp) (len) (cap) rfl Try.underlying22 rfl w) ?_
    simp only [Act.put, List.setIfInBounds_toArray, List.set_cons_zero, List.set_cons_succ]
    refine pureL (.slice cp s (c_k20 - len)) rfl (fun w => cutOp _ _ _ _ _ _ rfl rfl rfl (hcut w)) ?_
    simp only [Act.put, List.setIfInBounds_toArray, List.set_cons_zero, List.set_cons_succ]
    obtain ⟨vw5, w5, hr, O_w5, hgr, _⟩ := run_append_Own (P := Try.prog) (ty := 22) Try.underlying22 one8 (Own.lit w3 w3.heap.size 5 .u8 0 (fun _ => 0) (Nat.le_refl _) (by unfold maxLen; omega)) (cp) (s) ((c_k20 - len)) (fby n s) (s_cut.below hb (Nat.le_refl _)) hcn (by unfold maxLen; omega) (by omega) hb.size
    replace hb := hb.grown hgr hb.size (fun b hb => (World.ownsRow.lt (Own.lit w3 w3.heap.size 5 .u8 0 (fun _ => 0) (Nat.le_refl _) (by unfold maxLen; omega)) b hb).1)
    refine actL vw5 rfl (appendOp _ _ 22 _ _ _ rfl rfl rfl hr) ?_
    simp only [Act.put, List.setIfInBounds_toArray, List.set_cons_zero, List.set_cons_succ]
    replace O_w5 : Own w5 w3.heap.size 5 .u8 (s) (fby n s) vw5 := by
      rw [Nat.zero_add] at O_w5
      exact O_w5.congr (fun j _ => by unfold app; rw [if_neg (Nat.not_lt_zero j), Nat.sub_zero])
    obtain ⟨p_w5, c_w5, rfl, le_w5, s_w5⟩ := O_w5.bytes
    have nil_w5 := O_w5.nilCap
    clear hr hgr
    refine pureL (.slice sp len cap) rfl (fun _ => by kernel_rfl) ?_
    simp only [Act.put, List.setIfInBounds_toArray, List.set_cons_zero, List.set_cons_succ]
    obtain ⟨vw6, w6, hr, O_w6, hgr, _⟩ := run_append_Own (P := Try.prog) (ty := 22) Try.underlying22 one8 O_w5 (sp) (len) (cap) (z) (hsb.below (K.call hb).below (Nat.le_refl _)) hnb (by unfold maxLen; omega) (by omega) hb.size
    replace hb := hb.grown hgr hb.size (fun b hb => (World.ownsRow.lt O_w5 b hb).1)
    refine actL vw6 rfl (appendOp _ _ 22 _ _ _ rfl rfl rfl hr) ?_
    simp only [Act.put, List.setIfInBounds_toArray, List.set_cons_zero, List.set_cons_succ]
    replace O_w6 : Own w6 w3.heap.size 5 .u8 (s + len) (app (fby n s) s z) vw6 := by
      skip
      exact O_w6.congr (fun j _ => rfl)
    obtain ⟨p_w6, c_w6, rfl, le_w6, s_w6⟩ := O_w6.bytes
    have nil_w6 := O_w6.nilCap
    clear hr hgr
    refine pureL (.int .i64 ((s : Nat) : Int)) rfl (fun _ => by kernel_rfl) ?_
    simp only [Act.put, List.setIfInBounds_toArray, List.set_cons_zero, List.set_cons_succ]
    replace K := K.call hb
    replace O_k20 := O_k20.below hb
    replace s_k20 := s_k20.below hb (Nat.le_refl _)
    replace O_k21 := O_k21.below hb
    replace s_k21 := s_k21.below hb (Nat.le_refl _)
    replace s_cut := s_cut.below hb (Nat.le_refl _)
    clear hb
    refine callL rfl (fun _ => by kernel_rfl) (hTF (p_w6) (s + len) (c_w6) (by omega) le_w6 nil_w6 (app (fby n s) s z) (vapp_in (fun j _ => fby_in n s j) hib) ((s : Nat) : Int) (by omega) _ s_w6) ?_
    rintro e w7 ⟨⟨p_k22, c_k22, rfl, s_k22⟩, l⟩
    replace K := K.call l
    replace O_k20 := O_k20.below l
    replace s_k20 := s_k20.below l (Nat.le_refl _)
    replace O_k21 := O_k21.below l
    replace s_k21 := s_k21.below l (Nat.le_refl _)
    replace s_cut := s_cut.below l (Nat.le_refl _)
    replace s_w6 := s_w6.below l (Nat.le_refl _)
    clear l
    rw [hT.2.1, hT.1]
    rw [hT.2.2] at s_k22 ⊢
    replace s_k22 := s_k22.congr (y := z) (fun j _ => by show app (fby n s) s z (((s : Nat) : Int).toNat + j) = z j; rw [Int.toNat_natCast]; unfold app; rw [if_neg (by omega), show s + j - s = j by omega])
    refine ⟨_, rfl, ?_⟩
    simp only [Act.put, List.setIfInBounds_toArray, List.set_cons_zero, List.set_cons_succ]
    refine pureL (.tuple #[.int .i64 ((n : Nat) : Int), .slice p_k22 len c_k22, .int .i64 0]) rfl (fun _ => by kernel_rfl) ?_
    simp only [Act.put, List.setIfInBounds_toArray, List.set_cons_zero, List.set_cons_succ]
    refine pureL (.int .i64 ((n : Nat) : Int)) rfl (fun _ => by kernel_rfl) ?_
    simp only [Act.put, List.setIfInBounds_toArray, List.set_cons_zero, List.set_cons_succ]
    refine pureL (.slice p_k22 len c_k22) rfl (fun _ => by kernel_rfl) ?_
    simp only [Act.put, List.setIfInBounds_toArray, List.set_cons_zero, List.set_cons_succ]
    refine pureL (.int .i64 0) rfl (fun _ => by kernel_rfl) ?_
    simp only [Act.put, List.setIfInBounds_toArray, List.set_cons_zero, List.set_cons_succ]
    refine pureL (.int .i64 ((n : Nat) : Int)) rfl (fun _ => by kernel_rfl) ?_
    simp only [Act.put, List.setIfInBounds_toArray, List.set_cons_zero, List.set_cons_succ]
    refine pureL (.slice p_k22 len c_k22) rfl (fun _ => by kernel_rfl) ?_
    simp only [Act.put, List.setIfInBounds_toArray, List.set_cons_zero, List.set_cons_succ]
    refine pureL (.int .i64 0) rfl (fun _ => by kernel_rfl) ?_
    simp only [Act.put, List.setIfInBounds_toArray, List.set_cons_zero, List.set_cons_succ]
    show Exit.then _ _ _ _ _
    go_upto_region 9 with fail
    refine wp_region_list ?_
    refine pureL (.int .i64 0) rfl (fun _ => by kernel_rfl) ?_
    simp only [Act.put, List.setIfInBounds_toArray, List.set_cons_zero, List.set_cons_succ]
    refine pureL (.bool true) rfl (fun w => eqlI .i64 _ _ _ _ _ _ rfl rfl rfl true (by decide) w) ?_
    simp only [Act.put, List.setIfInBounds_toArray, List.set_cons_zero, List.set_cons_succ]
    refine pureL (.bool true) rfl (fun _ => by kernel_rfl) ?_
    simp only [Act.put, List.setIfInBounds_toArray, List.set_cons_zero, List.set_cons_succ]
    refine pureL (.int .i64 ((n : Nat) : Int)) rfl (fun _ => by kernel_rfl) ?_
    simp only [Act.put, List.setIfInBounds_toArray, List.set_cons_zero, List.set_cons_succ]
    refine pureL (.int .i64 ((n : Nat) : Int)) rfl (fun _ => by kernel_rfl) ?_
    simp only [Act.put, List.setIfInBounds_toArray, List.set_cons_zero, List.set_cons_succ]
    refine pureL (.bool true) rfl (fun w => eqlI .i64 _ _ _ _ _ _ rfl rfl rfl true (beq_self_eq_true _) w) ?_
    simp only [Act.put, List.setIfInBounds_toArray, List.set_cons_zero, List.set_cons_succ]
    refine pureL (.bool true) rfl (fun _ => by kernel_rfl) ?_
    simp only [Act.put, List.setIfInBounds_toArray, List.set_cons_zero, List.set_cons_succ]
    refine pureL (.bool true) rfl (fun _ => by kernel_rfl) ?_
    simp only [Act.put, List.setIfInBounds_toArray, List.set_cons_zero, List.set_cons_succ]
    refine pureL (.slice p_k22 len c_k22) rfl (fun _ => by kernel_rfl) ?_
    simp only [Act.put, List.setIfInBounds_toArray, List.set_cons_zero, List.set_cons_succ]
    refine readL (.string (txt (len) (z))) rfl (conv_txt 22 5 9 _ rfl Try.underlying22 Try.underlying5 Try.underlying9 (p_k22) (len) (c_k22) (z) rfl _ (s_k22) (Src.none (s_k22))) ?_
    simp only [Act.put, List.setIfInBounds_toArray, List.set_cons_zero, List.set_cons_succ]
    refine pureL (.slice sp len cap) rfl (fun _ => by kernel_rfl) ?_
    simp only [Act.put, List.setIfInBounds_toArray, List.set_cons_zero, List.set_cons_succ]
    refine readL (.string (txt (len) (z))) rfl (conv_txt 22 5 9 _ rfl Try.underlying22 Try.underlying5 Try.underlying9 (sp) (len) (cap) (z) rfl _ ((hsb.below K.below (Nat.le_refl _))) (Src.none ((hsb.below K.below (Nat.le_refl _))))) ?_
    simp only [Act.put, List.setIfInBounds_toArray, List.set_cons_zero, List.set_cons_succ]
    refine pureL (.bool true) rfl (fun w => eqlS _ _ _ _ _ _ rfl rfl rfl rfl w) ?_
    simp only [Act.put, List.setIfInBounds_toArray, List.set_cons_zero, List.set_cons_succ]
    refine pureL (.bool true) rfl (fun _ => by kernel_rfl) ?_
    simp only [Act.put, List.setIfInBounds_toArray, List.set_cons_zero, List.set_cons_succ]
    refine pureL (.bool true) rfl (fun _ => by kernel_rfl) ?_
    simp only [Act.put, List.setIfInBounds_toArray, List.set_cons_zero, List.set_cons_succ]
    show Exit.then _ _ _ _ _
    have hB := K.below
    clear K hcut hT
    go_wp2
    go_ret
    exact ⟨rfl, hB⟩
end Go.Proofs.Ytogbdoikkmdopaa
