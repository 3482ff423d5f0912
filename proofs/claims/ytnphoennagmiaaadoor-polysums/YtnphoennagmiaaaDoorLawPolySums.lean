/- The walk of PolySums. -/
import Derived.Test.YtnphoennagmiaaaDoorPv
import Derived.Test.YtnphoennagmiaaaDoorEr
import Derived.Test.YtnphoennagmiaaaDoorPr
import Derived.Test.YtnphoennagmiaaaDoorMk
namespace Go.Proofs.YtnphoennagmiaaaDoor
open Go.RowKit

set_option maxRecDepth 10000 in
set_option maxHeartbeats 8000000 in
theorem law_PolySums (hS : SumOK) (hE : SameOK) (k : Nat → Int) (hk : In 256 32 k) (sp : Option Addr) (len cap : Nat) (hlen : len ≤ 140737488355328) (hcap : len ≤ cap) (z : Nat → Int) (hz : In 256 len z) (hnone : sp = none → cap = 0) (w : World) (hg : Glob w) (hs : Src w sp len z) :
    Calls Tryd.prog 3 #[(.agg (row .u8 32 (k)).toArray), .slice sp len cap] w fun e w' => e = .returned (.bool true) ∧ Below w.heap.size w w' := by
  have K := (Kr.init w).box .u8 32 k 23 w.heap.size rfl
  go_enter Tryd.func3, Tryd.ntmps3
  go_upto_region 1 with fail
  generalize (w.alloc (.cells (row .u8 32 k).toArray 23)) = w0 at K ⊢
  refine wp_region_list ?_
  refine callL rfl (fun _ => by kernel_rfl) (pshown_any hS hE _ (hg.below K.below hg.size)) ?_
  rintro e w1 ⟨rfl, l⟩
  replace K := K.call l
  clear l
  refine ⟨_, rfl, ?_⟩
  simp only [Act.put, List.setIfInBounds_toArray, List.set_cons_zero, List.set_cons_succ]
  refine pureL (.bool true) rfl (fun _ => by kernel_rfl) ?_
  simp only [Act.put, List.setIfInBounds_toArray, List.set_cons_zero, List.set_cons_succ]
  show Exit.then _ _ _ _ _
  go_upto_region 2 with fail
  refine wp_region_list ?_
  refine actL (w' := w1.alloc (.cells #[] 5)) (.slice (some ⟨w1.heap.size, 0, none⟩) 0 0) rfl (by kernel_rfl) ?_
  simp only [Act.put, List.setIfInBounds_toArray, List.set_cons_zero, List.set_cons_succ]
  refine pureL (.slice sp len cap) rfl (fun _ => by kernel_rfl) ?_
  simp only [Act.put, List.setIfInBounds_toArray, List.set_cons_zero, List.set_cons_succ]
  have hb1 := (Below.refl w1.heap.size w1).alloc (Nat.le_refl _) (.cells #[] 5)
  have K1 := K.call hb1
  obtain ⟨v, w2, hr, ho, hgr, _⟩ := run_append_Own (P := Tryd.prog) (ty := 24) Tryd.underlying24 one8 (show Own (w1.alloc (.cells #[] 5)) w1.heap.size 5 .u8 0 (fun _ => 0) (.slice (some ⟨w1.heap.size, 0, none⟩) 0 0) from Own.lit w1 w1.heap.size 5 .u8 0 (fun _ => 0) (Nat.le_refl _) (by unfold maxLen; omega)) sp len cap z (hs.below K1.below (Nat.le_refl _)) hnone (by unfold maxLen; omega) (by omega) (by simp)
  refine actL v rfl (appendOp _ _ 24 _ _ _ rfl rfl rfl hr) ?_
  simp only [Act.put, List.setIfInBounds_toArray, List.set_cons_zero, List.set_cons_succ]
  refine pureL v rfl (fun _ => by kernel_rfl) ?_
  simp only [Act.put, List.setIfInBounds_toArray, List.set_cons_zero, List.set_cons_succ]
  rw [Nat.zero_add] at ho
  have hb2 : Below w1.heap.size w1 w2 := ⟨hgr.os.trans hb1.os, hgr.tape.trans hb1.tape, hgr.output.trans hb1.output, Nat.le_trans hb1.size hgr.size, fun j hj => (hgr.block j (Nat.lt_of_lt_of_le hj hb1.size) (fun e => by injection e with e; simp only at e; omega)).trans (hb1.block j hj)⟩
  replace K := K.call hb2
  obtain ⟨sq, cq, rfl, hcq, hq⟩ := (ho.congr (g := z) (fun j _ => by unfold app; rw [if_neg (by omega), Nat.sub_zero])).bytes
  replace K : KS w (w.heap.size + 1) [(w.heap.size, .u8, 32, k)] [] sq len z w2 := ⟨K, hq⟩
  clear hr ho hgr hb1 hb2 K1 hq
  show Exit.then _ _ _ _ _
  go_upto_region 3 with fail
  refine wp_region_held_drew (S := fun w' => KS w (w.heap.size + 1) [(w.heap.size, .u8, 32, k)] [] sq len z w') (by kernel_rfl) K.drew ?_
  clear K
  intro K
  refine pureH (i := 0) (some 11) rfl (.bool true) rfl rfl (fun _ => by kernel_rfl) (by kernel_rfl) (by kernel_rfl) (by kernel_rfl) (fun _ _ _ h => h) K ?_
  simp only [Act.put, List.setIfInBounds_toArray, List.set_cons_zero, List.set_cons_succ]
  refine pureH (i := 1) (some 12) rfl (.bool true) rfl rfl (fun _ => by kernel_rfl) (by kernel_rfl) (by kernel_rfl) (by kernel_rfl) (fun _ _ _ h => h) K ?_
  simp only [Act.put, List.setIfInBounds_toArray, List.set_cons_zero, List.set_cons_succ]
  refine rowKH (i := 2) (some 13) rfl .u8 32 (k) (w.heap.size) 0 23 _ _ rfl rfl rfl rfl (by kernel_rfl) (by kernel_rfl) (by kernel_rfl) (fun _ _ _ h => h) Tryd.underlying23 rfl (key_info _) K (fun _ h => (h.kr.get _ _ _ _ List.mem_cons_self).range) ?_
  simp only [Act.put, List.setIfInBounds_toArray, List.set_cons_zero, List.set_cons_succ]
  refine pureH (i := 3) (some 14) rfl (.slice sq len cq) rfl rfl (fun _ => by kernel_rfl) (by kernel_rfl) (by kernel_rfl) (by kernel_rfl) (fun _ _ _ h => h) K ?_
  simp only [Act.put, List.setIfInBounds_toArray, List.set_cons_zero, List.set_cons_succ]
  refine rowKH (i := 5) (some 16) rfl .u8 32 (k) (w.heap.size) 0 23 _ _ rfl rfl rfl rfl (by kernel_rfl) (by kernel_rfl) (by kernel_rfl) (fun _ _ _ h => h) Tryd.underlying23 rfl (key_info _) K (fun _ h => (h.kr.get _ _ _ _ List.mem_cons_self).range) ?_
  simp only [Act.put, List.setIfInBounds_toArray, List.set_cons_zero, List.set_cons_succ]
  refine pureH (i := 6) (some 17) rfl (.slice sp len cap) rfl rfl (fun _ => by kernel_rfl) (by kernel_rfl) (by kernel_rfl) (by kernel_rfl) (fun _ _ _ h => h) K ?_
  simp only [Act.put, List.setIfInBounds_toArray, List.set_cons_zero, List.set_cons_succ]
  refine callH (i := 4) (some 15) rfl (by kernel_rfl) rfl rfl (fun _ => by kernel_rfl) (hS k hk (sq) (len) (cq) hlen hcq z hz _ (hg.below K.kr.below hg.size) K.src) ?_
  rintro e w4 ⟨f1, rfl, s1, l⟩
  replace K := K.call l
  clear l
  refine ⟨_, rfl, K, ?_⟩
  simp only [Act.put, List.setIfInBounds_toArray, List.set_cons_zero, List.set_cons_succ]
  refine callH (i := 7) (some 18) rfl (by kernel_rfl) rfl rfl (fun _ => by kernel_rfl) (refSum_any k hk sp len cap hlen hcap z hz _ (hs.below K.kr.below (Nat.le_refl _))) ?_
  rintro e w5 ⟨f2, rfl, s2, l⟩
  replace K := K.call l
  clear l
  refine ⟨_, rfl, K, ?_⟩
  simp only [Act.put, List.setIfInBounds_toArray, List.set_cons_zero, List.set_cons_succ]
  refine pureH (i := 8) (some 19) rfl (.bool true) rfl rfl (fun w => eqlV 16 f1 f2 27 5 _ _ _ rfl rfl rfl Tryd.underlying27 Tryd.underlying5 (fun _ => by kernel_rfl) (by kernel_rfl) s1.1 s2.1 true (decide_eq_true (by rw [s1.2, s2.2])) w) (by kernel_rfl) (by kernel_rfl) (by kernel_rfl) (fun _ _ _ h => h) K ?_
  simp only [Act.put, List.setIfInBounds_toArray, List.set_cons_zero, List.set_cons_succ]
  refine pureH (i := 9) (some 20) rfl (.bool true) rfl rfl (fun _ => by kernel_rfl) (by kernel_rfl) (by kernel_rfl) (by kernel_rfl) (fun _ _ _ h => h) K ?_
  simp only [Act.put, List.setIfInBounds_toArray, List.set_cons_zero, List.set_cons_succ]
  refine pureH (i := 10) (some 21) rfl (.bool true) rfl rfl (fun _ => by kernel_rfl) (by kernel_rfl) (by kernel_rfl) (by kernel_rfl) (fun _ _ _ h => h) K ?_
  simp only [Act.put, List.setIfInBounds_toArray, List.set_cons_zero, List.set_cons_succ]
  refine pureH (i := 11) (some 22) rfl (.slice sq len cq) rfl rfl (fun _ => by kernel_rfl) (by kernel_rfl) (by kernel_rfl) (by kernel_rfl) (fun _ _ _ h => h) K ?_
  simp only [Act.put, List.setIfInBounds_toArray, List.set_cons_zero, List.set_cons_succ]
  refine readH (i := 12) (some 23) rfl (.string (txt len z)) rfl rfl (fun w' h => conv_txt 24 5 9 _ rfl Tryd.underlying24 Tryd.underlying5 Tryd.underlying9 (sq) (len) (cq) z rfl w' (h.src) (Src.none (h.src))) (by kernel_rfl) (by kernel_rfl) (by kernel_rfl) (fun _ _ _ h => h) K ?_
  simp only [Act.put, List.setIfInBounds_toArray, List.set_cons_zero, List.set_cons_succ]
  refine pureH (i := 13) (some 24) rfl (.slice sp len cap) rfl rfl (fun _ => by kernel_rfl) (by kernel_rfl) (by kernel_rfl) (by kernel_rfl) (fun _ _ _ h => h) K ?_
  simp only [Act.put, List.setIfInBounds_toArray, List.set_cons_zero, List.set_cons_succ]
  refine readH (i := 14) (some 25) rfl (.string (txt len z)) rfl rfl (fun w' h => conv_txt 24 5 9 _ rfl Tryd.underlying24 Tryd.underlying5 Tryd.underlying9 (sp) (len) (cap) z rfl w' (hs.below h.kr.below (Nat.le_refl _)) (Src.none (hs.below h.kr.below (Nat.le_refl _)))) (by kernel_rfl) (by kernel_rfl) (by kernel_rfl) (fun _ _ _ h => h) K ?_
  simp only [Act.put, List.setIfInBounds_toArray, List.set_cons_zero, List.set_cons_succ]
  refine pureH (i := 15) (some 26) rfl (.bool true) rfl rfl (fun w => eqlS _ _ _ _ _ _ rfl rfl rfl rfl w) (by kernel_rfl) (by kernel_rfl) (by kernel_rfl) (fun _ _ _ h => h) K ?_
  simp only [Act.put, List.setIfInBounds_toArray, List.set_cons_zero, List.set_cons_succ]
  refine pureH (i := 16) (some 27) rfl (.bool true) rfl rfl (fun _ => by kernel_rfl) (by kernel_rfl) (by kernel_rfl) (by kernel_rfl) (fun _ _ _ h => h) K ?_
  simp only [Act.put, List.setIfInBounds_toArray, List.set_cons_zero, List.set_cons_succ]
  refine pureH (i := 17) (some 4) rfl (.bool true) rfl rfl (fun _ => by kernel_rfl) (by kernel_rfl) (by kernel_rfl) (by kernel_rfl) (fun _ _ _ h => h) K ?_
  simp only [Act.put, List.setIfInBounds_toArray, List.set_cons_zero, List.set_cons_succ]
  refine wpAnyH_done (by kernel_rfl) ?_ _
  have hB := K.kr.below
  clear K
  go_wp2
  go_ret
  exact ⟨rfl, hB⟩
end Go.Proofs.YtnphoennagmiaaaDoor
