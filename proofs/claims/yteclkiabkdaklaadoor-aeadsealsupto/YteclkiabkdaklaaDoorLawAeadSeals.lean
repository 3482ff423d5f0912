/- The walk of AeadSeals. -/
import Derived.Test.YteclkiabkdaklaaDoorG6
namespace Go.Proofs.YteclkiabkdaklaaDoor
open Go.RowKit

set_option maxRecDepth 10000 in
set_option maxHeartbeats 8000000 in
theorem law_AeadSeals (hS : ASealOK) (hO : AOpenOK) (k n : Nat → Int) (hk : In 256 32 k) (hn : In 256 12 n) (bp : Option Addr) (bl bc : Nat) (hbl : bl ≤ 1048576) (_hbc : bl ≤ bc) (hbn : bp = none → bc = 0) (b : Nat → Int) (hb : In 256 bl b) (sp : Option Addr) (len cap : Nat) (hlen : len ≤ 1048576) (_hcap : len ≤ cap) (hsn : sp = none → cap = 0) (z : Nat → Int) (hz : In 256 len z) (w : World) (hg : AGlob w) (hsb : Src w bp bl b) (hs : Src w sp len z) :
    Calls Tryd.prog 3 #[(.agg (boxm k n bp bl bc).toArray), .slice sp len cap] w fun e w' => e = .returned (.bool true) ∧ Below w.heap.size w w' := by
  have hb0 := (Below.refl w.heap.size w).alloc (Nat.le_refl _) (.cells (boxm k n bp bl bc).toArray 28)
  have K : AL w w.heap.size k n bp bl bc [] (w.alloc (.cells (boxm k n bp bl bc).toArray 28)) := ⟨Bx.new w k n bp bl bc _, fun p hp => (by cases hp), hb0⟩
  replace K := K.add (sp) (len) z (hs.below hb0 (Nat.le_refl _))
  replace K := K.add (bp) (bl) b (hsb.below hb0 (Nat.le_refl _))
  clear hb0
  go_enter Tryd.func3, Tryd.ntmps3
  go_upto_region 1 with fail
  generalize (w.alloc (.cells (boxm k n bp bl bc).toArray 28)) = w0 at K ⊢
  refine wp_region_list ?_
  refine callL rfl (fun _ => by kernel_rfl) (ashown_any hS hO _ (hg.below K.below hg.size)) ?_
  rintro e w1 ⟨rfl, l⟩
  replace K := K.call l
  clear l
  refine ⟨_, rfl, ?_⟩
  simp only [Act.put, List.setIfInBounds_toArray, List.set_cons_zero, List.set_cons_succ]
  refine pureL (.bool true) rfl (fun _ => by kernel_rfl) ?_
  simp only [Act.put, List.setIfInBounds_toArray, List.set_cons_zero, List.set_cons_succ]
  show Exit.then _ _ _ _ _
  go_upto_region 2 with fail
  refine wp_region_list ?_
  refine actL (w' := w1.alloc (.cells #[] 5)) (.slice (some ⟨w1.heap.size, 0, none⟩) 0 0) rfl (by kernel_rfl) ?_
  simp only [Act.put, List.setIfInBounds_toArray, List.set_cons_zero, List.set_cons_succ]
  have hb1 := (Below.refl w1.heap.size w1).alloc (Nat.le_refl _) (.cells #[] 5)
  have HO : Own (w1.alloc (.cells #[] 5)) w1.heap.size 5 .u8 0 (fun _ => 0) (.slice (some ⟨w1.heap.size, 0, none⟩) 0 0) := Own.lit w1 w1.heap.size 5 .u8 0 (fun _ => 0) (Nat.le_refl _) (by unfold maxLen; omega)
  have K1 := K.call hb1
  refine pureL (.slice sp len cap) rfl (fun _ => by kernel_rfl) ?_
  simp only [Act.put, List.setIfInBounds_toArray, List.set_cons_zero, List.set_cons_succ]
  obtain ⟨v, w2, hr, ho, hgr, _⟩ := run_append_Own (P := Tryd.prog) (ty := 26) Tryd.underlying26 one8 HO (sp) (len) (cap) z (K1.get _ _ _ (List.mem_cons_of_mem _ List.mem_cons_self)) hsn (by unfold maxLen; omega) (by omega) (by simp)
  refine actL v rfl (appendOp _ _ 26 _ _ _ rfl rfl rfl hr) ?_
  simp only [Act.put, List.setIfInBounds_toArray, List.set_cons_zero, List.set_cons_succ]
  refine pureL v rfl (fun _ => by kernel_rfl) ?_
  simp only [Act.put, List.setIfInBounds_toArray, List.set_cons_zero, List.set_cons_succ]
  rw [Nat.zero_add] at ho
  replace K := K.call (Below.grown hb1 hgr (by simp) (fun b hb => (World.ownsRow.lt HO b hb).1))
  replace ho := ho.congr (g := z) (fun j _ => by unfold app; rw [if_neg (by omega), Nat.sub_zero])
  obtain ⟨sq, cq, rfl, cql, hq⟩ := ho.bytes
  have cqn := ho.nilCap
  replace K := K.add sq (len) z hq
  clear hr ho hgr hb1 K1 hq HO
  show Exit.then _ _ _ _ _
  go_upto_region 3 with fail
  refine wp_region_list ?_
  refine actL (w' := w2.alloc (.cells #[] 5)) (.slice (some ⟨w2.heap.size, 0, none⟩) 0 0) rfl (by kernel_rfl) ?_
  simp only [Act.put, List.setIfInBounds_toArray, List.set_cons_zero, List.set_cons_succ]
  have hb1 := (Below.refl w2.heap.size w2).alloc (Nat.le_refl _) (.cells #[] 5)
  have HO : Own (w2.alloc (.cells #[] 5)) w2.heap.size 5 .u8 0 (fun _ => 0) (.slice (some ⟨w2.heap.size, 0, none⟩) 0 0) := Own.lit w2 w2.heap.size 5 .u8 0 (fun _ => 0) (Nat.le_refl _) (by unfold maxLen; omega)
  have K1 := K.call hb1
  refine pureL (.pointer (some ⟨w.heap.size, 44, none⟩)) rfl (fun _ => by kernel_rfl) ?_
  simp only [Act.put, List.setIfInBounds_toArray, List.set_cons_zero, List.set_cons_succ]
  refine readL (.slice bp bl bc) rfl (loadCell 26 5 _ ⟨w.heap.size, 44, none⟩ _ rfl rfl Tryd.underlying26 K1.st.bes) ?_
  simp only [Act.put, List.setIfInBounds_toArray, List.set_cons_zero, List.set_cons_succ]
  obtain ⟨v, w3, hr, ho, hgr, _⟩ := run_append_Own (P := Tryd.prog) (ty := 26) Tryd.underlying26 one8 HO (bp) (bl) (bc) b (K1.get _ _ _ (List.mem_cons_of_mem _ List.mem_cons_self)) hbn (by unfold maxLen; omega) (by omega) (by simp)
  refine actL v rfl (appendOp _ _ 26 _ _ _ rfl rfl rfl hr) ?_
  simp only [Act.put, List.setIfInBounds_toArray, List.set_cons_zero, List.set_cons_succ]
  refine pureL v rfl (fun _ => by kernel_rfl) ?_
  simp only [Act.put, List.setIfInBounds_toArray, List.set_cons_zero, List.set_cons_succ]
  rw [Nat.zero_add] at ho
  replace K := K.call (Below.grown hb1 hgr (by simp) (fun b hb => (World.ownsRow.lt HO b hb).1))
  replace ho := ho.congr (g := b) (fun j _ => by unfold app; rw [if_neg (by omega), Nat.sub_zero])
  obtain ⟨bq, dq, rfl, dql, hq⟩ := ho.bytes
  have dqn := ho.nilCap
  replace K := K.add bq (bl) b hq
  clear hr ho hgr hb1 K1 hq HO
  show Exit.then _ _ _ _ _
  go_upto_region 4 with fail
  refine wp_region_held_drew (S := fun w' => AL w w.heap.size k n bp bl bc [(bq, bl, b), (sq, len, z), (bp, bl, b), (sp, len, z)] w') (by kernel_rfl) K.drew ?_
  clear K
  intro K
  refine pureH (i := 0) (some 16) rfl (.bool true) rfl rfl (fun _ => by kernel_rfl) (by kernel_rfl) (by kernel_rfl) (by kernel_rfl) (fun _ _ _ h => h) K ?_
  simp only [Act.put, List.setIfInBounds_toArray, List.set_cons_zero, List.set_cons_succ]
  refine pureH (i := 1) (some 17) rfl (.bool true) rfl rfl (fun _ => by kernel_rfl) (by kernel_rfl) (by kernel_rfl) (by kernel_rfl) (fun _ _ _ h => h) K ?_
  simp only [Act.put, List.setIfInBounds_toArray, List.set_cons_zero, List.set_cons_succ]
  refine pureH (i := 2) (some 18) rfl (.pointer (some ⟨w.heap.size, 0, none⟩)) rfl rfl (fun _ => by kernel_rfl) (by kernel_rfl) (by kernel_rfl) (by kernel_rfl) (fun _ _ _ h => h) K ?_
  simp only [Act.put, List.setIfInBounds_toArray, List.set_cons_zero, List.set_cons_succ]
  refine rowKH (i := 3) (some 19) rfl .u8 32 (k) (w.heap.size) 0 23 _ _ rfl rfl rfl rfl (by kernel_rfl) (by kernel_rfl) (by kernel_rfl) (fun _ _ _ h => h) Tryd.underlying23 rfl (key_info _) K (fun _ h => h.st.key) ?_
  simp only [Act.put, List.setIfInBounds_toArray, List.set_cons_zero, List.set_cons_succ]
  refine pureH (i := 4) (some 20) rfl (.pointer (some ⟨w.heap.size, 32, none⟩)) rfl rfl (fun _ => by kernel_rfl) (by kernel_rfl) (by kernel_rfl) (by kernel_rfl) (fun _ _ _ h => h) K ?_
  simp only [Act.put, List.setIfInBounds_toArray, List.set_cons_zero, List.set_cons_succ]
  refine rowKH (i := 5) (some 21) rfl .u8 12 (n) (w.heap.size) 32 25 _ _ rfl rfl rfl rfl (by kernel_rfl) (by kernel_rfl) (by kernel_rfl) (fun _ _ _ h => h) Tryd.underlying25 rfl (hn_info _) K (fun _ h => h.st.non) ?_
  simp only [Act.put, List.setIfInBounds_toArray, List.set_cons_zero, List.set_cons_succ]
  refine pureH (i := 6) (some 22) rfl (.slice bq bl dq) rfl rfl (fun _ => by kernel_rfl) (by kernel_rfl) (by kernel_rfl) (by kernel_rfl) (fun _ _ _ h => h) K ?_
  simp only [Act.put, List.setIfInBounds_toArray, List.set_cons_zero, List.set_cons_succ]
  refine pureH (i := 7) (some 23) rfl (.slice sq len cq) rfl rfl (fun _ => by kernel_rfl) (by kernel_rfl) (by kernel_rfl) (by kernel_rfl) (fun _ _ _ h => h) K ?_
  simp only [Act.put, List.setIfInBounds_toArray, List.set_cons_zero, List.set_cons_succ]
  refine pureH (i := 10) (some 26) rfl (.pointer (some ⟨w.heap.size, 0, none⟩)) rfl rfl (fun _ => by kernel_rfl) (by kernel_rfl) (by kernel_rfl) (by kernel_rfl) (fun _ _ _ h => h) K ?_
  simp only [Act.put, List.setIfInBounds_toArray, List.set_cons_zero, List.set_cons_succ]
  refine rowKH (i := 11) (some 27) rfl .u8 32 (k) (w.heap.size) 0 23 _ _ rfl rfl rfl rfl (by kernel_rfl) (by kernel_rfl) (by kernel_rfl) (fun _ _ _ h => h) Tryd.underlying23 rfl (key_info _) K (fun _ h => h.st.key) ?_
  simp only [Act.put, List.setIfInBounds_toArray, List.set_cons_zero, List.set_cons_succ]
  refine pureH (i := 12) (some 28) rfl (.pointer (some ⟨w.heap.size, 32, none⟩)) rfl rfl (fun _ => by kernel_rfl) (by kernel_rfl) (by kernel_rfl) (by kernel_rfl) (fun _ _ _ h => h) K ?_
  simp only [Act.put, List.setIfInBounds_toArray, List.set_cons_zero, List.set_cons_succ]
  refine rowKH (i := 13) (some 29) rfl .u8 12 (n) (w.heap.size) 32 25 _ _ rfl rfl rfl rfl (by kernel_rfl) (by kernel_rfl) (by kernel_rfl) (fun _ _ _ h => h) Tryd.underlying25 rfl (hn_info _) K (fun _ h => h.st.non) ?_
  simp only [Act.put, List.setIfInBounds_toArray, List.set_cons_zero, List.set_cons_succ]
  refine pureH (i := 14) (some 30) rfl (.pointer (some ⟨w.heap.size, 44, none⟩)) rfl rfl (fun _ => by kernel_rfl) (by kernel_rfl) (by kernel_rfl) (by kernel_rfl) (fun _ _ _ h => h) K ?_
  simp only [Act.put, List.setIfInBounds_toArray, List.set_cons_zero, List.set_cons_succ]
  refine readH (i := 15) (some 31) rfl (.slice bp bl bc) rfl rfl (fun w2 h => loadCell 26 5 _ ⟨w.heap.size, 44, none⟩ _ rfl rfl Tryd.underlying26 h.st.bes) (by kernel_rfl) (by kernel_rfl) (by kernel_rfl) (fun _ _ _ h => h) K ?_
  simp only [Act.put, List.setIfInBounds_toArray, List.set_cons_zero, List.set_cons_succ]
  refine pureH (i := 16) (some 32) rfl (.slice sp len cap) rfl rfl (fun _ => by kernel_rfl) (by kernel_rfl) (by kernel_rfl) (by kernel_rfl) (fun _ _ _ h => h) K ?_
  simp only [Act.put, List.setIfInBounds_toArray, List.set_cons_zero, List.set_cons_succ]
  refine callH (i := 8) (some 24) rfl (by kernel_rfl) rfl rfl (fun _ => by kernel_rfl) (hS k n hk hn bq bl dq (by omega) dql dqn b hb sq len cq (by omega) cql cqn z hz _ (hg.below K.below hg.size) (K.get _ _ _ List.mem_cons_self) (K.get _ _ _ (List.mem_cons_of_mem _ List.mem_cons_self))) ?_
  rintro e w8 ⟨B, cB, rfl, ⟨_, _, _, HB⟩, l⟩
  replace K := K.call l
  clear l
  refine ⟨_, rfl, K, ?_⟩
  simp only [Act.put, List.setIfInBounds_toArray, List.set_cons_zero, List.set_cons_succ]
  replace K := K.add (some ⟨B, 0, none⟩) (len + 16) (aout k n bl b len z) HB.src0
  clear HB
  refine wpAnyH_more (S' := fun w' => AL w w.heap.size k n bp bl bc [(some ⟨B, 0, none⟩, len + 16, (aout k n bl b len z)), (bq, bl, b), (sq, len, z), (bp, bl, b), (sp, len, z)] w') (fun w' h => ⟨h.st, fun p hp => h.src p (List.mem_cons_of_mem _ hp), h.below⟩) _ _ _ _ ?_
  refine readH (i := 9) (some 25) rfl (.string (txt (len + 16) (aout k n bl b len z))) rfl rfl (fun w h => conv_txt 26 5 9 _ rfl Tryd.underlying26 Tryd.underlying5 Tryd.underlying9 (some ⟨B, 0, none⟩) (len + 16) (cB) (aout k n bl b len z) rfl w (h.get _ _ _ List.mem_cons_self) (Src.none (h.get _ _ _ List.mem_cons_self))) (by kernel_rfl) (by kernel_rfl) (by kernel_rfl) (fun _ _ _ h => h) K ?_
  simp only [Act.put, List.setIfInBounds_toArray, List.set_cons_zero, List.set_cons_succ]
  refine callH (i := 17) (some 33) rfl (by kernel_rfl) rfl rfl (fun _ => by kernel_rfl) (refSeal_any k n hk hn bp bl bc (by omega) hbn b hb sp len cap (by omega) z hz _ (K.get _ _ _ (List.mem_cons_of_mem _ (List.mem_cons_of_mem _ (List.mem_cons_of_mem _ List.mem_cons_self)))) (K.get _ _ _ (List.mem_cons_of_mem _ (List.mem_cons_of_mem _ (List.mem_cons_of_mem _ (List.mem_cons_of_mem _ List.mem_cons_self)))))) ?_
  rintro e w9 ⟨s5, c5, rfl, P5, l⟩
  replace K := K.call l
  clear l
  refine ⟨_, rfl, K, ?_⟩
  simp only [Act.put, List.setIfInBounds_toArray, List.set_cons_zero, List.set_cons_succ]
  obtain ⟨_, _, hv, _, h5⟩ := P5.bytes
  injection hv with hv1 _ hv3
  subst hv1 hv3
  refine actH (i := 18) (some 34) rfl (.string (txt (len + 16) (aout k n bl b len z))) (by kernel_rfl) rfl rfl (conv_txt 26 5 9 _ rfl Tryd.underlying26 Tryd.underlying5 Tryd.underlying9 (s5) (len + 16) (c5) (aout k n bl b len z) rfl _ h5 (Src.none h5)) K ?_
  simp only [Act.put, List.setIfInBounds_toArray, List.set_cons_zero, List.set_cons_succ]
  refine pureH (i := 19) (some 35) rfl (.bool true) rfl rfl (fun w => eqlS _ _ _ _ _ _ rfl rfl rfl rfl w) (by kernel_rfl) (by kernel_rfl) (by kernel_rfl) (fun _ _ _ h => h) K ?_
  simp only [Act.put, List.setIfInBounds_toArray, List.set_cons_zero, List.set_cons_succ]
  refine pureH (i := 20) (some 36) rfl (.bool true) rfl rfl (fun _ => by kernel_rfl) (by kernel_rfl) (by kernel_rfl) (by kernel_rfl) (fun _ _ _ h => h) K ?_
  simp only [Act.put, List.setIfInBounds_toArray, List.set_cons_zero, List.set_cons_succ]
  refine pureH (i := 21) (some 37) rfl (.bool true) rfl rfl (fun _ => by kernel_rfl) (by kernel_rfl) (by kernel_rfl) (by kernel_rfl) (fun _ _ _ h => h) K ?_
  simp only [Act.put, List.setIfInBounds_toArray, List.set_cons_zero, List.set_cons_succ]
  refine pureH (i := 22) (some 38) rfl (.slice sq len cq) rfl rfl (fun _ => by kernel_rfl) (by kernel_rfl) (by kernel_rfl) (by kernel_rfl) (fun _ _ _ h => h) K ?_
  simp only [Act.put, List.setIfInBounds_toArray, List.set_cons_zero, List.set_cons_succ]
  refine readH (i := 23) (some 39) rfl (.string (txt (len) z)) rfl rfl (fun w h => conv_txt 26 5 9 _ rfl Tryd.underlying26 Tryd.underlying5 Tryd.underlying9 (sq) (len) (cq) z rfl w (h.get _ _ _ (List.mem_cons_of_mem _ (List.mem_cons_of_mem _ List.mem_cons_self))) (Src.none (h.get _ _ _ (List.mem_cons_of_mem _ (List.mem_cons_of_mem _ List.mem_cons_self))))) (by kernel_rfl) (by kernel_rfl) (by kernel_rfl) (fun _ _ _ h => h) K ?_
  simp only [Act.put, List.setIfInBounds_toArray, List.set_cons_zero, List.set_cons_succ]
  refine pureH (i := 24) (some 40) rfl (.slice sp len cap) rfl rfl (fun _ => by kernel_rfl) (by kernel_rfl) (by kernel_rfl) (by kernel_rfl) (fun _ _ _ h => h) K ?_
  simp only [Act.put, List.setIfInBounds_toArray, List.set_cons_zero, List.set_cons_succ]
  refine readH (i := 25) (some 41) rfl (.string (txt (len) z)) rfl rfl (fun w h => conv_txt 26 5 9 _ rfl Tryd.underlying26 Tryd.underlying5 Tryd.underlying9 (sp) (len) (cap) z rfl w (h.get _ _ _ (List.mem_cons_of_mem _ (List.mem_cons_of_mem _ (List.mem_cons_of_mem _ (List.mem_cons_of_mem _ List.mem_cons_self))))) (Src.none (h.get _ _ _ (List.mem_cons_of_mem _ (List.mem_cons_of_mem _ (List.mem_cons_of_mem _ (List.mem_cons_of_mem _ List.mem_cons_self))))))) (by kernel_rfl) (by kernel_rfl) (by kernel_rfl) (fun _ _ _ h => h) K ?_
  simp only [Act.put, List.setIfInBounds_toArray, List.set_cons_zero, List.set_cons_succ]
  refine pureH (i := 26) (some 42) rfl (.bool true) rfl rfl (fun w => eqlS _ _ _ _ _ _ rfl rfl rfl rfl w) (by kernel_rfl) (by kernel_rfl) (by kernel_rfl) (fun _ _ _ h => h) K ?_
  simp only [Act.put, List.setIfInBounds_toArray, List.set_cons_zero, List.set_cons_succ]
  refine pureH (i := 27) (some 43) rfl (.bool true) rfl rfl (fun _ => by kernel_rfl) (by kernel_rfl) (by kernel_rfl) (by kernel_rfl) (fun _ _ _ h => h) K ?_
  simp only [Act.put, List.setIfInBounds_toArray, List.set_cons_zero, List.set_cons_succ]
  refine pureH (i := 28) (some 44) rfl (.bool true) rfl rfl (fun _ => by kernel_rfl) (by kernel_rfl) (by kernel_rfl) (by kernel_rfl) (fun _ _ _ h => h) K ?_
  simp only [Act.put, List.setIfInBounds_toArray, List.set_cons_zero, List.set_cons_succ]
  refine pureH (i := 29) (some 45) rfl (.slice bq bl dq) rfl rfl (fun _ => by kernel_rfl) (by kernel_rfl) (by kernel_rfl) (by kernel_rfl) (fun _ _ _ h => h) K ?_
  simp only [Act.put, List.setIfInBounds_toArray, List.set_cons_zero, List.set_cons_succ]
  refine readH (i := 30) (some 46) rfl (.string (txt (bl) b)) rfl rfl (fun w h => conv_txt 26 5 9 _ rfl Tryd.underlying26 Tryd.underlying5 Tryd.underlying9 (bq) (bl) (dq) b rfl w (h.get _ _ _ (List.mem_cons_of_mem _ List.mem_cons_self)) (Src.none (h.get _ _ _ (List.mem_cons_of_mem _ List.mem_cons_self)))) (by kernel_rfl) (by kernel_rfl) (by kernel_rfl) (fun _ _ _ h => h) K ?_
  simp only [Act.put, List.setIfInBounds_toArray, List.set_cons_zero, List.set_cons_succ]
  refine pureH (i := 31) (some 47) rfl (.pointer (some ⟨w.heap.size, 44, none⟩)) rfl rfl (fun _ => by kernel_rfl) (by kernel_rfl) (by kernel_rfl) (by kernel_rfl) (fun _ _ _ h => h) K ?_
  simp only [Act.put, List.setIfInBounds_toArray, List.set_cons_zero, List.set_cons_succ]
  refine readH (i := 32) (some 48) rfl (.slice bp bl bc) rfl rfl (fun w2 h => loadCell 26 5 _ ⟨w.heap.size, 44, none⟩ _ rfl rfl Tryd.underlying26 h.st.bes) (by kernel_rfl) (by kernel_rfl) (by kernel_rfl) (fun _ _ _ h => h) K ?_
  simp only [Act.put, List.setIfInBounds_toArray, List.set_cons_zero, List.set_cons_succ]
  refine readH (i := 33) (some 49) rfl (.string (txt (bl) b)) rfl rfl (fun w h => conv_txt 26 5 9 _ rfl Tryd.underlying26 Tryd.underlying5 Tryd.underlying9 (bp) (bl) (bc) b rfl w (h.get _ _ _ (List.mem_cons_of_mem _ (List.mem_cons_of_mem _ (List.mem_cons_of_mem _ List.mem_cons_self)))) (Src.none (h.get _ _ _ (List.mem_cons_of_mem _ (List.mem_cons_of_mem _ (List.mem_cons_of_mem _ List.mem_cons_self)))))) (by kernel_rfl) (by kernel_rfl) (by kernel_rfl) (fun _ _ _ h => h) K ?_
  simp only [Act.put, List.setIfInBounds_toArray, List.set_cons_zero, List.set_cons_succ]
  refine pureH (i := 34) (some 50) rfl (.bool true) rfl rfl (fun w => eqlS _ _ _ _ _ _ rfl rfl rfl rfl w) (by kernel_rfl) (by kernel_rfl) (by kernel_rfl) (fun _ _ _ h => h) K ?_
  simp only [Act.put, List.setIfInBounds_toArray, List.set_cons_zero, List.set_cons_succ]
  refine pureH (i := 35) (some 51) rfl (.bool true) rfl rfl (fun _ => by kernel_rfl) (by kernel_rfl) (by kernel_rfl) (by kernel_rfl) (fun _ _ _ h => h) K ?_
  simp only [Act.put, List.setIfInBounds_toArray, List.set_cons_zero, List.set_cons_succ]
  refine pureH (i := 36) (some 4) rfl (.bool true) rfl rfl (fun _ => by kernel_rfl) (by kernel_rfl) (by kernel_rfl) (by kernel_rfl) (fun _ _ _ h => h) K ?_
  simp only [Act.put, List.setIfInBounds_toArray, List.set_cons_zero, List.set_cons_succ]
  refine wpAnyH_done (by kernel_rfl) ?_ _
  have hB := K.below
  clear K
  go_wp2
  go_ret
  exact ⟨rfl, hB⟩
end Go.Proofs.YteclkiabkdaklaaDoor
