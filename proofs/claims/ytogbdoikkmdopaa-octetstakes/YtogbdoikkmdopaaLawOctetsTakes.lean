/- The walk of OctetsTakes. -/
import Derived.Test.YtogbdoikkmdopaaG2
namespace Go.Proofs.Ytogbdoikkmdopaa
open Go.RowKit

set_option maxRecDepth 10000 in
set_option maxHeartbeats 16000000 in
theorem law_OctetsTakes (hPV : PutVarOK) (hTV : TakeVarOK) (hPF : PutFixedOK) (hTF : TakeFixedOK) (hPB : PutBytesOK) (hTB : TakeBytesOK) (sp : Option Addr) (len cap : Nat) (hlb : len ≤ 140737488351232) (hcb : len ≤ cap) (hnb : sp = none → cap = 0) (z : Nat → Int) (hib : In 256 len z) (n : Int) (hn : -9223372036854775808 ≤ n ∧ n < 9223372036854775808) (w : World) (hsb : Src w sp len z) : Calls Try.prog 4 #[.slice sp len cap, .int .i64 n] w fun e w' => e = .returned (.bool true) ∧ Below w.heap.size w w' := by
  have K := Kr.init w
  go_enter Try.func4, Try.ntmps4
  go_upto_region 1 with fail
  refine wp_region_list ?_
  refine callL rfl (fun _ => by kernel_rfl) (vshown_any hPV hTV hPF hTF hPB hTB _) ?_
  rintro e w1 ⟨rfl, l⟩
  replace K := K.call l
  clear l
  refine ⟨_, rfl, ?_⟩
  simp only [Act.put, List.setIfInBounds_toArray, List.set_cons_zero, List.set_cons_succ]
  refine pureL (.bool true) rfl (fun _ => by kernel_rfl) ?_
  simp only [Act.put, List.setIfInBounds_toArray, List.set_cons_zero, List.set_cons_succ]
  show Exit.then _ _ _ _ _
  go_upto_region 2 with fail
  refine wp_region_list ?_
  refine actL (w' := w1.alloc (.cells #[] 5)) (.slice (some ⟨w1.heap.size, 0, none⟩) 0 0) rfl (by kernel_rfl) ?_
  simp only [Act.put, List.setIfInBounds_toArray, List.set_cons_zero, List.set_cons_succ]
  have hb := (Below.refl w1.heap.size w1).alloc (Nat.le_refl _) (.cells #[] 5)
  refine pureL (.slice sp len cap) rfl (fun _ => by kernel_rfl) ?_
  simp only [Act.put, List.setIfInBounds_toArray, List.set_cons_zero, List.set_cons_succ]
  obtain ⟨vw3, w3, hr, O_w3, hgr, _⟩ := run_append_Own (P := Try.prog) (ty := 22) Try.underlying22 one8 (Own.lit w1 w1.heap.size 5 .u8 0 (fun _ => 0) (Nat.le_refl _) (by unfold maxLen; omega)) (sp) (len) (cap) (z) (hsb.below (K.call hb).below (Nat.le_refl _)) hnb (by unfold maxLen; omega) (by omega) hb.size
  replace hb := hb.grown hgr hb.size (fun b hb => (World.ownsRow.lt (Own.lit w1 w1.heap.size 5 .u8 0 (fun _ => 0) (Nat.le_refl _) (by unfold maxLen; omega)) b hb).1)
  refine actL vw3 rfl (appendOp _ _ 22 _ _ _ rfl rfl rfl hr) ?_
  simp only [Act.put, List.setIfInBounds_toArray, List.set_cons_zero, List.set_cons_succ]
  replace O_w3 : Own w3 w1.heap.size 5 .u8 (len) (z) vw3 := by
    rw [Nat.zero_add] at O_w3
    exact O_w3.congr (fun j _ => by unfold app; rw [if_neg (Nat.not_lt_zero j), Nat.sub_zero])
  obtain ⟨p_w3, c_w3, rfl, le_w3, s_w3⟩ := O_w3.bytes
  have nil_w3 := O_w3.nilCap
  clear hr hgr
  refine pureL (.slice p_w3 len c_w3) rfl (fun _ => by kernel_rfl) ?_
  simp only [Act.put, List.setIfInBounds_toArray, List.set_cons_zero, List.set_cons_succ]
  replace K := K.call hb
  clear hb
  show Exit.then _ _ _ _ _
  go_upto_region 3 with fail
  refine wp_region_list ?_
  refine pureL (.slice p_w3 len c_w3) rfl (fun _ => by kernel_rfl) ?_
  simp only [Act.put, List.setIfInBounds_toArray, List.set_cons_zero, List.set_cons_succ]
  refine callL rfl (fun _ => by kernel_rfl) (hTV (p_w3) (len) (c_w3) (by omega) le_w3 nil_w3 (z) hib _ s_w3) ?_
  rintro e w4 ⟨⟨p_k10, c_k10, rfl, s_k10⟩, l⟩
  replace K := K.call l
  replace s_w3 := s_w3.below l (Nat.le_refl _)
  clear l
  refine ⟨_, rfl, ?_⟩
  simp only [Act.put, List.setIfInBounds_toArray, List.set_cons_zero, List.set_cons_succ]
  refine pureL (.tuple #[.int .i64 (tN len z), .slice p_k10 (tL len z) c_k10, .int .i64 (tE len z)]) rfl (fun _ => by kernel_rfl) ?_
  simp only [Act.put, List.setIfInBounds_toArray, List.set_cons_zero, List.set_cons_succ]
  refine pureL (.int .i64 (tN len z)) rfl (fun _ => by kernel_rfl) ?_
  simp only [Act.put, List.setIfInBounds_toArray, List.set_cons_zero, List.set_cons_succ]
  refine pureL (.slice p_k10 (tL len z) c_k10) rfl (fun _ => by kernel_rfl) ?_
  simp only [Act.put, List.setIfInBounds_toArray, List.set_cons_zero, List.set_cons_succ]
  refine pureL (.int .i64 (tE len z)) rfl (fun _ => by kernel_rfl) ?_
  simp only [Act.put, List.setIfInBounds_toArray, List.set_cons_zero, List.set_cons_succ]
  refine pureL (.int .i64 (tN len z)) rfl (fun _ => by kernel_rfl) ?_
  simp only [Act.put, List.setIfInBounds_toArray, List.set_cons_zero, List.set_cons_succ]
  refine pureL (.slice p_k10 (tL len z) c_k10) rfl (fun _ => by kernel_rfl) ?_
  simp only [Act.put, List.setIfInBounds_toArray, List.set_cons_zero, List.set_cons_succ]
  refine pureL (.int .i64 (tE len z)) rfl (fun _ => by kernel_rfl) ?_
  simp only [Act.put, List.setIfInBounds_toArray, List.set_cons_zero, List.set_cons_succ]
  show Exit.then _ _ _ _ _
  go_upto_region 4 with fail
  refine wp_region_list ?_
  refine pureL (.slice sp len cap) rfl (fun _ => by kernel_rfl) ?_
  simp only [Act.put, List.setIfInBounds_toArray, List.set_cons_zero, List.set_cons_succ]
  refine callL rfl (fun _ => by kernel_rfl) (rtakev_any (sp) (len) (cap) (by omega) hcb hnb (z) hib _ (hsb.below K.below (Nat.le_refl _))) ?_
  rintro e w5 ⟨⟨p_k11, c_k11, rfl, s_k11⟩, l⟩
  replace K := K.call l
  replace s_w3 := s_w3.below l (Nat.le_refl _)
  replace s_k10 := s_k10.below l (Nat.le_refl _)
  clear l
  refine ⟨_, rfl, ?_⟩
  simp only [Act.put, List.setIfInBounds_toArray, List.set_cons_zero, List.set_cons_succ]
  refine pureL (.tuple #[.int .i64 (tN len z), .slice p_k11 (tL len z) c_k11, .int .i64 (tE len z)]) rfl (fun _ => by kernel_rfl) ?_
  simp only [Act.put, List.setIfInBounds_toArray, List.set_cons_zero, List.set_cons_succ]
  refine pureL (.int .i64 (tN len z)) rfl (fun _ => by kernel_rfl) ?_
  simp only [Act.put, List.setIfInBounds_toArray, List.set_cons_zero, List.set_cons_succ]
  refine pureL (.slice p_k11 (tL len z) c_k11) rfl (fun _ => by kernel_rfl) ?_
  simp only [Act.put, List.setIfInBounds_toArray, List.set_cons_zero, List.set_cons_succ]
  refine pureL (.int .i64 (tE len z)) rfl (fun _ => by kernel_rfl) ?_
  simp only [Act.put, List.setIfInBounds_toArray, List.set_cons_zero, List.set_cons_succ]
  refine pureL (.int .i64 (tN len z)) rfl (fun _ => by kernel_rfl) ?_
  simp only [Act.put, List.setIfInBounds_toArray, List.set_cons_zero, List.set_cons_succ]
  refine pureL (.slice p_k11 (tL len z) c_k11) rfl (fun _ => by kernel_rfl) ?_
  simp only [Act.put, List.setIfInBounds_toArray, List.set_cons_zero, List.set_cons_succ]
  refine pureL (.int .i64 (tE len z)) rfl (fun _ => by kernel_rfl) ?_
  simp only [Act.put, List.setIfInBounds_toArray, List.set_cons_zero, List.set_cons_succ]
  show Exit.then _ _ _ _ _
  go_upto_region 5 with fail
  refine wp_region_list ?_
  refine pureL (.slice p_w3 len c_w3) rfl (fun _ => by kernel_rfl) ?_
  simp only [Act.put, List.setIfInBounds_toArray, List.set_cons_zero, List.set_cons_succ]
  refine pureL (.int .i64 n) rfl (fun _ => by kernel_rfl) ?_
  simp only [Act.put, List.setIfInBounds_toArray, List.set_cons_zero, List.set_cons_succ]
  refine callL rfl (fun _ => by kernel_rfl) (hTF (p_w3) (len) (c_w3) (by omega) le_w3 nil_w3 (z) hib n (by omega) _ s_w3) ?_
  rintro e w6 ⟨⟨p_k12, c_k12, rfl, s_k12⟩, l⟩
  replace K := K.call l
  replace s_w3 := s_w3.below l (Nat.le_refl _)
  replace s_k10 := s_k10.below l (Nat.le_refl _)
  replace s_k11 := s_k11.below l (Nat.le_refl _)
  clear l
  refine ⟨_, rfl, ?_⟩
  simp only [Act.put, List.setIfInBounds_toArray, List.set_cons_zero, List.set_cons_succ]
  refine pureL (.tuple #[.int .i64 (gN len z n), .slice p_k12 (gL len n) c_k12, .int .i64 (gE len n)]) rfl (fun _ => by kernel_rfl) ?_
  simp only [Act.put, List.setIfInBounds_toArray, List.set_cons_zero, List.set_cons_succ]
  refine pureL (.int .i64 (gN len z n)) rfl (fun _ => by kernel_rfl) ?_
  simp only [Act.put, List.setIfInBounds_toArray, List.set_cons_zero, List.set_cons_succ]
  refine pureL (.slice p_k12 (gL len n) c_k12) rfl (fun _ => by kernel_rfl) ?_
  simp only [Act.put, List.setIfInBounds_toArray, List.set_cons_zero, List.set_cons_succ]
  refine pureL (.int .i64 (gE len n)) rfl (fun _ => by kernel_rfl) ?_
  simp only [Act.put, List.setIfInBounds_toArray, List.set_cons_zero, List.set_cons_succ]
  refine pureL (.int .i64 (gN len z n)) rfl (fun _ => by kernel_rfl) ?_
  simp only [Act.put, List.setIfInBounds_toArray, List.set_cons_zero, List.set_cons_succ]
  refine pureL (.slice p_k12 (gL len n) c_k12) rfl (fun _ => by kernel_rfl) ?_
  simp only [Act.put, List.setIfInBounds_toArray, List.set_cons_zero, List.set_cons_succ]
  refine pureL (.int .i64 (gE len n)) rfl (fun _ => by kernel_rfl) ?_
  simp only [Act.put, List.setIfInBounds_toArray, List.set_cons_zero, List.set_cons_succ]
  show Exit.then _ _ _ _ _
  go_upto_region 6 with fail
  refine wp_region_list ?_
  refine pureL (.slice sp len cap) rfl (fun _ => by kernel_rfl) ?_
  simp only [Act.put, List.setIfInBounds_toArray, List.set_cons_zero, List.set_cons_succ]
  refine pureL (.int .i64 n) rfl (fun _ => by kernel_rfl) ?_
  simp only [Act.put, List.setIfInBounds_toArray, List.set_cons_zero, List.set_cons_succ]
  refine callL rfl (fun _ => by kernel_rfl) (rtakef_any (sp) (len) (cap) (by omega) hcb hnb (z) hib n _ (hsb.below K.below (Nat.le_refl _))) ?_
  rintro e w7 ⟨⟨p_k13, c_k13, rfl, s_k13⟩, l⟩
  replace K := K.call l
  replace s_w3 := s_w3.below l (Nat.le_refl _)
  replace s_k10 := s_k10.below l (Nat.le_refl _)
  replace s_k11 := s_k11.below l (Nat.le_refl _)
  replace s_k12 := s_k12.below l (Nat.le_refl _)
  clear l
  refine ⟨_, rfl, ?_⟩
  simp only [Act.put, List.setIfInBounds_toArray, List.set_cons_zero, List.set_cons_succ]
  refine pureL (.tuple #[.int .i64 (gN len z n), .slice p_k13 (gL len n) c_k13, .int .i64 (gE len n)]) rfl (fun _ => by kernel_rfl) ?_
  simp only [Act.put, List.setIfInBounds_toArray, List.set_cons_zero, List.set_cons_succ]
  refine pureL (.int .i64 (gN len z n)) rfl (fun _ => by kernel_rfl) ?_
  simp only [Act.put, List.setIfInBounds_toArray, List.set_cons_zero, List.set_cons_succ]
  refine pureL (.slice p_k13 (gL len n) c_k13) rfl (fun _ => by kernel_rfl) ?_
  simp only [Act.put, List.setIfInBounds_toArray, List.set_cons_zero, List.set_cons_succ]
  refine pureL (.int .i64 (gE len n)) rfl (fun _ => by kernel_rfl) ?_
  simp only [Act.put, List.setIfInBounds_toArray, List.set_cons_zero, List.set_cons_succ]
  refine pureL (.int .i64 (gN len z n)) rfl (fun _ => by kernel_rfl) ?_
  simp only [Act.put, List.setIfInBounds_toArray, List.set_cons_zero, List.set_cons_succ]
  refine pureL (.slice p_k13 (gL len n) c_k13) rfl (fun _ => by kernel_rfl) ?_
  simp only [Act.put, List.setIfInBounds_toArray, List.set_cons_zero, List.set_cons_succ]
  refine pureL (.int .i64 (gE len n)) rfl (fun _ => by kernel_rfl) ?_
  simp only [Act.put, List.setIfInBounds_toArray, List.set_cons_zero, List.set_cons_succ]
  show Exit.then _ _ _ _ _
  go_upto_region 7 with fail
  refine wp_region_list ?_
  refine pureL (.bool true) rfl (fun _ => by kernel_rfl) ?_
  simp only [Act.put, List.setIfInBounds_toArray, List.set_cons_zero, List.set_cons_succ]
  refine pureL (.bool true) rfl (fun _ => by kernel_rfl) ?_
  simp only [Act.put, List.setIfInBounds_toArray, List.set_cons_zero, List.set_cons_succ]
  refine pureL (.int .i64 (tN len z)) rfl (fun _ => by kernel_rfl) ?_
  simp only [Act.put, List.setIfInBounds_toArray, List.set_cons_zero, List.set_cons_succ]
  refine pureL (.int .i64 (tN len z)) rfl (fun _ => by kernel_rfl) ?_
  simp only [Act.put, List.setIfInBounds_toArray, List.set_cons_zero, List.set_cons_succ]
  refine pureL (.bool true) rfl (fun w => eqlI .i64 _ _ _ _ _ _ rfl rfl rfl true (beq_self_eq_true _) w) ?_
  simp only [Act.put, List.setIfInBounds_toArray, List.set_cons_zero, List.set_cons_succ]
  refine pureL (.bool true) rfl (fun _ => by kernel_rfl) ?_
  simp only [Act.put, List.setIfInBounds_toArray, List.set_cons_zero, List.set_cons_succ]
  refine pureL (.bool true) rfl (fun _ => by kernel_rfl) ?_
  simp only [Act.put, List.setIfInBounds_toArray, List.set_cons_zero, List.set_cons_succ]
  refine pureL (.slice p_k10 (tL len z) c_k10) rfl (fun _ => by kernel_rfl) ?_
  simp only [Act.put, List.setIfInBounds_toArray, List.set_cons_zero, List.set_cons_succ]
  refine readL (.string (txt (tL len z) (tR z))) rfl (conv_txt 22 5 9 _ rfl Try.underlying22 Try.underlying5 Try.underlying9 (p_k10) (tL len z) (c_k10) (tR z) rfl _ (s_k10) (Src.none (s_k10))) ?_
  simp only [Act.put, List.setIfInBounds_toArray, List.set_cons_zero, List.set_cons_succ]
  refine pureL (.slice p_k11 (tL len z) c_k11) rfl (fun _ => by kernel_rfl) ?_
  simp only [Act.put, List.setIfInBounds_toArray, List.set_cons_zero, List.set_cons_succ]
  refine readL (.string (txt (tL len z) (tR z))) rfl (conv_txt 22 5 9 _ rfl Try.underlying22 Try.underlying5 Try.underlying9 (p_k11) (tL len z) (c_k11) (tR z) rfl _ (s_k11) (Src.none (s_k11))) ?_
  simp only [Act.put, List.setIfInBounds_toArray, List.set_cons_zero, List.set_cons_succ]
  refine pureL (.bool true) rfl (fun w => eqlS _ _ _ _ _ _ rfl rfl rfl rfl w) ?_
  simp only [Act.put, List.setIfInBounds_toArray, List.set_cons_zero, List.set_cons_succ]
  refine pureL (.bool true) rfl (fun _ => by kernel_rfl) ?_
  simp only [Act.put, List.setIfInBounds_toArray, List.set_cons_zero, List.set_cons_succ]
  refine pureL (.bool true) rfl (fun _ => by kernel_rfl) ?_
  simp only [Act.put, List.setIfInBounds_toArray, List.set_cons_zero, List.set_cons_succ]
  refine pureL (.int .i64 (tE len z)) rfl (fun _ => by kernel_rfl) ?_
  simp only [Act.put, List.setIfInBounds_toArray, List.set_cons_zero, List.set_cons_succ]
  refine pureL (.int .i64 (tE len z)) rfl (fun _ => by kernel_rfl) ?_
  simp only [Act.put, List.setIfInBounds_toArray, List.set_cons_zero, List.set_cons_succ]
  refine pureL (.bool true) rfl (fun w => eqlI .i64 _ _ _ _ _ _ rfl rfl rfl true (beq_self_eq_true _) w) ?_
  simp only [Act.put, List.setIfInBounds_toArray, List.set_cons_zero, List.set_cons_succ]
  refine pureL (.bool true) rfl (fun _ => by kernel_rfl) ?_
  simp only [Act.put, List.setIfInBounds_toArray, List.set_cons_zero, List.set_cons_succ]
  refine pureL (.bool true) rfl (fun _ => by kernel_rfl) ?_
  simp only [Act.put, List.setIfInBounds_toArray, List.set_cons_zero, List.set_cons_succ]
  refine pureL (.int .i64 (gN len z n)) rfl (fun _ => by kernel_rfl) ?_
  simp only [Act.put, List.setIfInBounds_toArray, List.set_cons_zero, List.set_cons_succ]
  refine pureL (.int .i64 (gN len z n)) rfl (fun _ => by kernel_rfl) ?_
  simp only [Act.put, List.setIfInBounds_toArray, List.set_cons_zero, List.set_cons_succ]
  refine pureL (.bool true) rfl (fun w => eqlI .i64 _ _ _ _ _ _ rfl rfl rfl true (beq_self_eq_true _) w) ?_
  simp only [Act.put, List.setIfInBounds_toArray, List.set_cons_zero, List.set_cons_succ]
  refine pureL (.bool true) rfl (fun _ => by kernel_rfl) ?_
  simp only [Act.put, List.setIfInBounds_toArray, List.set_cons_zero, List.set_cons_succ]
  refine pureL (.bool true) rfl (fun _ => by kernel_rfl) ?_
  simp only [Act.put, List.setIfInBounds_toArray, List.set_cons_zero, List.set_cons_succ]
  refine pureL (.slice p_k12 (gL len n) c_k12) rfl (fun _ => by kernel_rfl) ?_
  simp only [Act.put, List.setIfInBounds_toArray, List.set_cons_zero, List.set_cons_succ]
  refine readL (.string (txt (gL len n) (fun j => z (n.toNat + j)))) rfl (conv_txt 22 5 9 _ rfl Try.underlying22 Try.underlying5 Try.underlying9 (p_k12) (gL len n) (c_k12) (fun j => z (n.toNat + j)) rfl _ (s_k12) (Src.none (s_k12))) ?_
  simp only [Act.put, List.setIfInBounds_toArray, List.set_cons_zero, List.set_cons_succ]
  refine pureL (.slice p_k13 (gL len n) c_k13) rfl (fun _ => by kernel_rfl) ?_
  simp only [Act.put, List.setIfInBounds_toArray, List.set_cons_zero, List.set_cons_succ]
  refine readL (.string (txt (gL len n) (fun j => z (n.toNat + j)))) rfl (conv_txt 22 5 9 _ rfl Try.underlying22 Try.underlying5 Try.underlying9 (p_k13) (gL len n) (c_k13) (fun j => z (n.toNat + j)) rfl _ (s_k13) (Src.none (s_k13))) ?_
  simp only [Act.put, List.setIfInBounds_toArray, List.set_cons_zero, List.set_cons_succ]
  refine pureL (.bool true) rfl (fun w => eqlS _ _ _ _ _ _ rfl rfl rfl rfl w) ?_
  simp only [Act.put, List.setIfInBounds_toArray, List.set_cons_zero, List.set_cons_succ]
  refine pureL (.bool true) rfl (fun _ => by kernel_rfl) ?_
  simp only [Act.put, List.setIfInBounds_toArray, List.set_cons_zero, List.set_cons_succ]
  refine pureL (.bool true) rfl (fun _ => by kernel_rfl) ?_
  simp only [Act.put, List.setIfInBounds_toArray, List.set_cons_zero, List.set_cons_succ]
  refine pureL (.int .i64 (gE len n)) rfl (fun _ => by kernel_rfl) ?_
  simp only [Act.put, List.setIfInBounds_toArray, List.set_cons_zero, List.set_cons_succ]
  refine pureL (.int .i64 (gE len n)) rfl (fun _ => by kernel_rfl) ?_
  simp only [Act.put, List.setIfInBounds_toArray, List.set_cons_zero, List.set_cons_succ]
  refine pureL (.bool true) rfl (fun w => eqlI .i64 _ _ _ _ _ _ rfl rfl rfl true (beq_self_eq_true _) w) ?_
  simp only [Act.put, List.setIfInBounds_toArray, List.set_cons_zero, List.set_cons_succ]
  refine pureL (.bool true) rfl (fun _ => by kernel_rfl) ?_
  simp only [Act.put, List.setIfInBounds_toArray, List.set_cons_zero, List.set_cons_succ]
  refine pureL (.bool true) rfl (fun _ => by kernel_rfl) ?_
  simp only [Act.put, List.setIfInBounds_toArray, List.set_cons_zero, List.set_cons_succ]
  refine pureL (.slice p_w3 len c_w3) rfl (fun _ => by kernel_rfl) ?_
  simp only [Act.put, List.setIfInBounds_toArray, List.set_cons_zero, List.set_cons_succ]
  refine readL (.string (txt (len) (z))) rfl (conv_txt 22 5 9 _ rfl Try.underlying22 Try.underlying5 Try.underlying9 (p_w3) (len) (c_w3) (z) rfl _ (s_w3) (Src.none (s_w3))) ?_
  simp only [Act.put, List.setIfInBounds_toArray, List.set_cons_zero, List.set_cons_succ]
  refine pureL (.slice sp len cap) rfl (fun _ => by kernel_rfl) ?_
  simp only [Act.put, List.setIfInBounds_toArray, List.set_cons_zero, List.set_cons_succ]
  refine readL (.string (txt (len) (z))) rfl (conv_txt 22 5 9 _ rfl Try.underlying22 Try.underlying5 Try.underlying9 (sp) (len) (cap) (z) rfl _ ((hsb.below K.below (Nat.le_refl _))) (Src.none ((hsb.below K.below (Nat.le_refl _))))) ?_
  simp only [Act.put, List.setIfInBounds_toArray, List.set_cons_zero, List.set_cons_succ]
  refine pureL (.bool true) rfl (fun w => eqlS _ _ _ _ _ _ rfl rfl rfl rfl w) ?_
  simp only [Act.put, List.setIfInBounds_toArray, List.set_cons_zero, List.set_cons_succ]
  refine pureL (.bool true) rfl (fun _ => by kernel_rfl) ?_
  simp only [Act.put, List.setIfInBounds_toArray, List.set_cons_zero, List.set_cons_succ]
  refine pureL (.bool true) rfl (fun _ => by kernel_rfl) ?_
  simp only [Act.put, List.setIfInBounds_toArray, List.set_cons_zero, List.set_cons_succ]
  show Exit.then _ _ _ _ _
  have hB := K.below
  clear K
  go_wp2
  go_ret
  exact ⟨rfl, hB⟩
end Go.Proofs.Ytogbdoikkmdopaa
