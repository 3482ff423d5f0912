/- The walk of AeadBack. -/
import Derived.Test.YteclkiabkdaklaaDoorG6
namespace Go.Proofs.YteclkiabkdaklaaDoor
open Go.RowKit

set_option maxRecDepth 10000 in
set_option maxHeartbeats 8000000 in
theorem law_AeadBack (hS : ASealOK) (hO : AOpenOK) (k n : Nat → Int) (hk : In 256 32 k) (hn : In 256 12 n) (bp : Option Addr) (bl bc : Nat) (hbl : bl ≤ 140737488351232) (hbc : bl ≤ bc) (hbn : bp = none → bc = 0) (b : Nat → Int) (hb : In 256 bl b) (sp : Option Addr) (len cap : Nat) (hlen : len ≤ 140737488351232) (hcap : len ≤ cap) (hsn : sp = none → cap = 0) (z : Nat → Int) (hz : In 256 len z) (w : World) (hg : AGlob w) (hsb : Src w bp bl b) (hs : Src w sp len z) :
    Calls Tryd.prog 5 #[(.agg (boxm k n bp bl bc).toArray), .slice sp len cap] w fun e w' => e = .returned (.bool true) ∧ Below w.heap.size w w' := by
  have hb0 := (Below.refl w.heap.size w).alloc (Nat.le_refl _) (.cells (boxm k n bp bl bc).toArray 28)
  have K : AL w w.heap.size k n bp bl bc [] (w.alloc (.cells (boxm k n bp bl bc).toArray 28)) := ⟨Bx.new w k n bp bl bc _, fun p hp => (by cases hp), hb0⟩
  replace K := K.add (sp) (len) z (hs.below hb0 (Nat.le_refl _))
  replace K := K.add (bp) (bl) b (hsb.below hb0 (Nat.le_refl _))
  clear hb0
  go_enter Tryd.func5, Tryd.ntmps5
  go_upto_region 1 with fail
  generalize (w.alloc (.cells (boxm k n bp bl bc).toArray 28)) = w0 at K ⊢
  refine wp_region_list ?_
  refine callL rfl (fun _ => by kernel_rfl) (ashown_any hS hO _ (hg.below K.below hg.size)) ?_
  rintro e w1 ⟨rfl, l⟩
  replace K := K.call l
  clear l
  refine ⟨_, rfl, ?_⟩
  simp only [Act.put, List.setIfInBounds_toArray, List.set_cons_zero, List.set_cons_succ]
  refine pureL (.bool true) rfl (fun _ => by kernel_rfl) ?_
  simp only [Act.put, List.setIfInBounds_toArray, List.set_cons_zero, List.set_cons_succ]
  show Exit.then _ _ _ _ _
  go_upto_region 2 with fail
  refine wp_region_list ?_
  refine pureL (.pointer (some ⟨w.heap.size, 0, none⟩)) rfl (fun _ => by kernel_rfl) ?_
  simp only [Act.put, List.setIfInBounds_toArray, List.set_cons_zero, List.set_cons_succ]
  refine rowKL .u8 32 (k) (w.heap.size) 0 23 _ _ rfl rfl rfl Tryd.underlying23 rfl (key_info _) (K.st.key) ?_
  simp only [Act.put, List.setIfInBounds_toArray, List.set_cons_zero, List.set_cons_succ]
  refine pureL (.pointer (some ⟨w.heap.size, 32, none⟩)) rfl (fun _ => by kernel_rfl) ?_
  simp only [Act.put, List.setIfInBounds_toArray, List.set_cons_zero, List.set_cons_succ]
  refine rowKL .u8 12 (n) (w.heap.size) 32 25 _ _ rfl rfl rfl Tryd.underlying25 rfl (hn_info _) (K.st.non) ?_
  simp only [Act.put, List.setIfInBounds_toArray, List.set_cons_zero, List.set_cons_succ]
  refine pureL (.pointer (some ⟨w.heap.size, 44, none⟩)) rfl (fun _ => by kernel_rfl) ?_
  simp only [Act.put, List.setIfInBounds_toArray, List.set_cons_zero, List.set_cons_succ]
  refine readL (.slice bp bl bc) rfl (loadCell 26 5 _ ⟨w.heap.size, 44, none⟩ _ rfl rfl Tryd.underlying26 K.st.bes) ?_
  simp only [Act.put, List.setIfInBounds_toArray, List.set_cons_zero, List.set_cons_succ]
  refine pureL (.slice sp len cap) rfl (fun _ => by kernel_rfl) ?_
  simp only [Act.put, List.setIfInBounds_toArray, List.set_cons_zero, List.set_cons_succ]
  refine callL rfl (fun _ => by kernel_rfl) (hS k n hk hn (bp) (bl) (bc) (by omega) hbc hbn b hb (sp) (len) (cap) (by omega) hcap hsn z hz _ (hg.below K.below hg.size) (K.get _ _ _ List.mem_cons_self) (K.get _ _ _ (List.mem_cons_of_mem _ List.mem_cons_self))) ?_
  rintro e w2 ⟨B, cB, rfl, ⟨hB, _, _, HB⟩, l⟩
  replace K := (K.call l).add (some ⟨B, 0, none⟩) (len + 16) (aout k n bl b len z) HB.src0
  clear l HB
  refine ⟨_, rfl, ?_⟩
  simp only [Act.put, List.setIfInBounds_toArray, List.set_cons_zero, List.set_cons_succ]
  refine pureL (.slice (some ⟨B, 0, none⟩) (len + 16) cB) rfl (fun _ => by kernel_rfl) ?_
  simp only [Act.put, List.setIfInBounds_toArray, List.set_cons_zero, List.set_cons_succ]
  show Exit.then _ _ _ _ _
  go_upto_region 3 with fail
  refine wp_region_list ?_
  refine pureL (.pointer (some ⟨w.heap.size, 0, none⟩)) rfl (fun _ => by kernel_rfl) ?_
  simp only [Act.put, List.setIfInBounds_toArray, List.set_cons_zero, List.set_cons_succ]
  refine rowKL .u8 32 (k) (w.heap.size) 0 23 _ _ rfl rfl rfl Tryd.underlying23 rfl (key_info _) (K.st.key) ?_
  simp only [Act.put, List.setIfInBounds_toArray, List.set_cons_zero, List.set_cons_succ]
  refine pureL (.pointer (some ⟨w.heap.size, 32, none⟩)) rfl (fun _ => by kernel_rfl) ?_
  simp only [Act.put, List.setIfInBounds_toArray, List.set_cons_zero, List.set_cons_succ]
  refine rowKL .u8 12 (n) (w.heap.size) 32 25 _ _ rfl rfl rfl Tryd.underlying25 rfl (hn_info _) (K.st.non) ?_
  simp only [Act.put, List.setIfInBounds_toArray, List.set_cons_zero, List.set_cons_succ]
  refine pureL (.pointer (some ⟨w.heap.size, 44, none⟩)) rfl (fun _ => by kernel_rfl) ?_
  simp only [Act.put, List.setIfInBounds_toArray, List.set_cons_zero, List.set_cons_succ]
  refine readL (.slice bp bl bc) rfl (loadCell 26 5 _ ⟨w.heap.size, 44, none⟩ _ rfl rfl Tryd.underlying26 K.st.bes) ?_
  simp only [Act.put, List.setIfInBounds_toArray, List.set_cons_zero, List.set_cons_succ]
  refine pureL (.slice (some ⟨B, 0, none⟩) (len + 16) cB) rfl (fun _ => by kernel_rfl) ?_
  simp only [Act.put, List.setIfInBounds_toArray, List.set_cons_zero, List.set_cons_succ]
  refine callL rfl (fun _ => by kernel_rfl) (hO k n hk hn bp bl bc (by omega) hbc hbn b hb (some ⟨B, 0, none⟩) (len + 16) cB (by omega) hB (fun e => by cases e) (aout k n bl b len z) (aout_in k n bl b len z hz) _ (hg.below K.below hg.size) (K.get _ _ _ (List.mem_cons_of_mem _ List.mem_cons_self)) (K.get _ _ _ List.mem_cons_self)) ?_
  rintro e w3 ⟨s3, c3, rfl, h3, l⟩
  rw [aback_L] at h3
  rw [aback_L, aback_E]
  replace K := (K.call l).add s3 len z (h3.congr (fun j hj => aback_text k n bl b len z hz j hj))
  clear l h3
  refine ⟨_, rfl, ?_⟩
  simp only [Act.put, List.setIfInBounds_toArray, List.set_cons_zero, List.set_cons_succ]
  refine pureL (.tuple #[.slice s3 len c3, .int .i64 0]) rfl (fun _ => by kernel_rfl) ?_
  simp only [Act.put, List.setIfInBounds_toArray, List.set_cons_zero, List.set_cons_succ]
  refine pureL (.slice s3 len c3) rfl (fun _ => by kernel_rfl) ?_
  simp only [Act.put, List.setIfInBounds_toArray, List.set_cons_zero, List.set_cons_succ]
  refine pureL (.int .i64 0) rfl (fun _ => by kernel_rfl) ?_
  simp only [Act.put, List.setIfInBounds_toArray, List.set_cons_zero, List.set_cons_succ]
  refine pureL (.slice s3 len c3) rfl (fun _ => by kernel_rfl) ?_
  simp only [Act.put, List.setIfInBounds_toArray, List.set_cons_zero, List.set_cons_succ]
  refine pureL (.int .i64 0) rfl (fun _ => by kernel_rfl) ?_
  simp only [Act.put, List.setIfInBounds_toArray, List.set_cons_zero, List.set_cons_succ]
  show Exit.then _ _ _ _ _
  go_upto_region 4 with fail
  refine wp_region_list ?_
  refine pureL (.bool true) rfl (fun _ => by kernel_rfl) ?_
  simp only [Act.put, List.setIfInBounds_toArray, List.set_cons_zero, List.set_cons_succ]
  refine pureL (.bool true) rfl (fun _ => by kernel_rfl) ?_
  simp only [Act.put, List.setIfInBounds_toArray, List.set_cons_zero, List.set_cons_succ]
  refine pureL (.int .i64 0) rfl (fun _ => by kernel_rfl) ?_
  simp only [Act.put, List.setIfInBounds_toArray, List.set_cons_zero, List.set_cons_succ]
  refine pureL (.bool true) rfl (fun w => eqlI .i64 _ _ _ _ _ _ rfl rfl rfl true (by decide) w) ?_
  simp only [Act.put, List.setIfInBounds_toArray, List.set_cons_zero, List.set_cons_succ]
  refine pureL (.bool true) rfl (fun _ => by kernel_rfl) ?_
  simp only [Act.put, List.setIfInBounds_toArray, List.set_cons_zero, List.set_cons_succ]
  refine pureL (.bool true) rfl (fun _ => by kernel_rfl) ?_
  simp only [Act.put, List.setIfInBounds_toArray, List.set_cons_zero, List.set_cons_succ]
  refine pureL (.slice s3 len c3) rfl (fun _ => by kernel_rfl) ?_
  simp only [Act.put, List.setIfInBounds_toArray, List.set_cons_zero, List.set_cons_succ]
  refine readL (.string (txt (len) z)) rfl (conv_txt 26 5 9 _ rfl Tryd.underlying26 Tryd.underlying5 Tryd.underlying9 (s3) (len) (c3) z rfl _ (K.get _ _ _ List.mem_cons_self) (Src.none (K.get _ _ _ List.mem_cons_self))) ?_
  simp only [Act.put, List.setIfInBounds_toArray, List.set_cons_zero, List.set_cons_succ]
  refine pureL (.slice sp len cap) rfl (fun _ => by kernel_rfl) ?_
  simp only [Act.put, List.setIfInBounds_toArray, List.set_cons_zero, List.set_cons_succ]
  refine readL (.string (txt (len) z)) rfl (conv_txt 26 5 9 _ rfl Tryd.underlying26 Tryd.underlying5 Tryd.underlying9 (sp) (len) (cap) z rfl _ (K.get _ _ _ (List.mem_cons_of_mem _ (List.mem_cons_of_mem _ (List.mem_cons_of_mem _ List.mem_cons_self)))) (Src.none (K.get _ _ _ (List.mem_cons_of_mem _ (List.mem_cons_of_mem _ (List.mem_cons_of_mem _ List.mem_cons_self)))))) ?_
  simp only [Act.put, List.setIfInBounds_toArray, List.set_cons_zero, List.set_cons_succ]
  refine pureL (.bool true) rfl (fun w => eqlS _ _ _ _ _ _ rfl rfl rfl rfl w) ?_
  simp only [Act.put, List.setIfInBounds_toArray, List.set_cons_zero, List.set_cons_succ]
  refine pureL (.bool true) rfl (fun _ => by kernel_rfl) ?_
  simp only [Act.put, List.setIfInBounds_toArray, List.set_cons_zero, List.set_cons_succ]
  refine pureL (.bool true) rfl (fun _ => by kernel_rfl) ?_
  simp only [Act.put, List.setIfInBounds_toArray, List.set_cons_zero, List.set_cons_succ]
  refine pureL (.slice (some ⟨B, 0, none⟩) (len + 16) cB) rfl (fun _ => by kernel_rfl) ?_
  simp only [Act.put, List.setIfInBounds_toArray, List.set_cons_zero, List.set_cons_succ]
  refine pureL (.int .i64 ((len + 16 : Nat) : Int)) rfl (fun w => lenS _ 26 5 (some ⟨B, 0, none⟩) (len + 16) (cB) rfl Tryd.underlying26 rfl w) ?_
  simp only [Act.put, List.setIfInBounds_toArray, List.set_cons_zero, List.set_cons_succ]
  refine pureL (.slice sp len cap) rfl (fun _ => by kernel_rfl) ?_
  simp only [Act.put, List.setIfInBounds_toArray, List.set_cons_zero, List.set_cons_succ]
  refine pureL (.int .i64 ((len : Nat) : Int)) rfl (fun w => lenS _ 26 5 (sp) (len) (cap) rfl Tryd.underlying26 rfl w) ?_
  simp only [Act.put, List.setIfInBounds_toArray, List.set_cons_zero, List.set_cons_succ]
  refine pureL (.int .i64 ((len + 16 : Nat) : Int)) rfl (fun w => addI .i64 _ _ _ _ _ _ _ rfl rfl rfl (by rw [IntKind.wrap_i64]; omega) w) ?_
  simp only [Act.put, List.setIfInBounds_toArray, List.set_cons_zero, List.set_cons_succ]
  refine pureL (.bool true) rfl (fun w => eqlI .i64 _ _ _ _ _ _ rfl rfl rfl true (by simp) w) ?_
  simp only [Act.put, List.setIfInBounds_toArray, List.set_cons_zero, List.set_cons_succ]
  refine pureL (.bool true) rfl (fun _ => by kernel_rfl) ?_
  simp only [Act.put, List.setIfInBounds_toArray, List.set_cons_zero, List.set_cons_succ]
  refine pureL (.bool true) rfl (fun _ => by kernel_rfl) ?_
  simp only [Act.put, List.setIfInBounds_toArray, List.set_cons_zero, List.set_cons_succ]
  show Exit.then _ _ _ _ _
  have hBe := K.below
  clear K
  go_wp2
  go_ret
  exact ⟨rfl, hBe⟩
end Go.Proofs.YteclkiabkdaklaaDoor
