/- The walk of ChachaXors. -/
import Derived.Test.YtldebgblkaaojaaDoorHv
import Derived.Test.YtldebgblkaaojaaDoorLw
import Derived.Test.YtldebgblkaaojaaDoorHt
namespace Go.Proofs.YtldebgblkaaojaaDoor
open Go.RowKit

set_option maxRecDepth 10000 in
set_option maxHeartbeats 8000000 in
theorem law_ChachaXors (k : Nat → Int) (c : Int) (n : Nat → Int) (hk : In 256 32 k) (hn : In 256 12 n) (hc : 0 ≤ c ∧ c < V) (sp : Option Addr) (len cap : Nat) (hlen : len ≤ 140737488355327) (hcap : sp = none → cap = 0) (z : Nat → Int) (w : World) (hg : HGlob w) (hs : Src w sp len z) :
    Calls Tryd.prog 5 #[(.agg (strm k c n).toArray), .slice sp len cap] w fun e w' => e = .returned (.bool true) ∧ Below w.heap.size w w' := by
  have K : HL w w.heap.size k c n [(sp, len, z)] (w.alloc (.cells (strm k c n).toArray 35)) := ⟨Str.new w k c n _, fun p hp => by obtain rfl := List.mem_singleton.1 hp; exact hs.below ((Below.refl w.heap.size w).alloc (Nat.le_refl _) _) (Nat.le_refl _), (Below.refl w.heap.size w).alloc (Nat.le_refl _) _⟩
  go_enter Tryd.func5, Tryd.ntmps5
  go_upto_region 1 with fail
  generalize (w.alloc (.cells (strm k c n).toArray 35)) = w0 at K ⊢
  refine wp_region_list ?_
  refine callL rfl (fun _ => by kernel_rfl) (hshown_any _ (hg.below K.below hg.size)) ?_
  rintro e w1 ⟨rfl, l⟩
  replace K := K.call l
  clear l
  refine ⟨_, rfl, ?_⟩
  simp only [Act.put, List.setIfInBounds_toArray, List.set_cons_zero, List.set_cons_succ]
  refine pureL (.bool true) rfl (fun _ => by kernel_rfl) ?_
  simp only [Act.put, List.setIfInBounds_toArray, List.set_cons_zero, List.set_cons_succ]
  show Exit.then _ _ _ _ _
  go_upto_region 2 with fail
  refine wp_region_list ?_
  refine actL (w' := w1.alloc (.cells #[] 5)) (.slice (some ⟨w1.heap.size, 0, none⟩) 0 0) rfl (by kernel_rfl) ?_
  simp only [Act.put, List.setIfInBounds_toArray, List.set_cons_zero, List.set_cons_succ]
  refine pureL (.slice sp len cap) rfl (fun _ => by kernel_rfl) ?_
  simp only [Act.put, List.setIfInBounds_toArray, List.set_cons_zero, List.set_cons_succ]
  have hb1 := (Below.refl w1.heap.size w1).alloc (Nat.le_refl _) (.cells #[] 5)
  have K1 := K.call hb1
  obtain ⟨v, w2, hr, ho, hgr, _⟩ := run_append_Own (P := Tryd.prog) (ty := 36) Tryd.underlying36 one8 (show Own (w1.alloc (.cells #[] 5)) w1.heap.size 5 .u8 0 (fun _ => 0) (.slice (some ⟨w1.heap.size, 0, none⟩) 0 0) from Own.lit w1 w1.heap.size 5 .u8 0 (fun _ => 0) (Nat.le_refl _) (by unfold maxLen; omega)) sp len cap z (K1.get _ _ _ List.mem_cons_self) hcap (by unfold maxLen; omega) (by omega) (by simp)
  refine actL v rfl (appendOp _ _ 36 _ _ _ rfl rfl rfl hr) ?_
  simp only [Act.put, List.setIfInBounds_toArray, List.set_cons_zero, List.set_cons_succ]
  refine pureL v rfl (fun _ => by kernel_rfl) ?_
  simp only [Act.put, List.setIfInBounds_toArray, List.set_cons_zero, List.set_cons_succ]
  rw [Nat.zero_add] at ho
  have hb2 : Below w1.heap.size w1 w2 := ⟨hgr.os.trans hb1.os, hgr.tape.trans hb1.tape, hgr.output.trans hb1.output, Nat.le_trans hb1.size hgr.size, fun j hj => (hgr.block j (Nat.lt_of_lt_of_le hj hb1.size) (fun e => by injection e with e; simp only at e; omega)).trans (hb1.block j hj)⟩
  replace K := K.call hb2
  obtain ⟨sq, cq, rfl, _, hq⟩ := (ho.congr (g := z) (fun j _ => by unfold app; rw [if_neg (by omega), Nat.sub_zero])).isSlice
  replace K := K.add sq len z hq
  clear hr ho hgr hb1 hb2 K1 hq
  show Exit.then _ _ _ _ _
  go_upto_region 3 with fail
  refine wp_region_list ?_
  refine pureL (.pointer (some ⟨w.heap.size, 0, none⟩)) rfl (fun _ => by kernel_rfl) ?_
  simp only [Act.put, List.setIfInBounds_toArray, List.set_cons_zero, List.set_cons_succ]
  refine rowKL .u8 32 (k) (w.heap.size) 0 28 _ _ rfl rfl rfl Tryd.underlying28 rfl (key_info _) (K.st.key) ?_
  simp only [Act.put, List.setIfInBounds_toArray, List.set_cons_zero, List.set_cons_succ]
  refine pureL (.pointer (some ⟨w.heap.size, 32, none⟩)) rfl (fun _ => by kernel_rfl) ?_
  simp only [Act.put, List.setIfInBounds_toArray, List.set_cons_zero, List.set_cons_succ]
  refine cellL .u32 (.int .u32 c) (w.heap.size) 32 22 _ rfl rfl rfl Tryd.underlying22 K.st.ctr ?_
  simp only [Act.put, List.setIfInBounds_toArray, List.set_cons_zero, List.set_cons_succ]
  refine pureL (.pointer (some ⟨w.heap.size, 33, none⟩)) rfl (fun _ => by kernel_rfl) ?_
  simp only [Act.put, List.setIfInBounds_toArray, List.set_cons_zero, List.set_cons_succ]
  refine rowKL .u8 12 (n) (w.heap.size) 33 30 _ _ rfl rfl rfl Tryd.underlying30 rfl (hn_info _) (K.st.non) ?_
  simp only [Act.put, List.setIfInBounds_toArray, List.set_cons_zero, List.set_cons_succ]
  refine pureL (.slice sq len cq) rfl (fun _ => by kernel_rfl) ?_
  simp only [Act.put, List.setIfInBounds_toArray, List.set_cons_zero, List.set_cons_succ]
  refine callL rfl (fun _ => by kernel_rfl) (hxor_any k c n hk hn hc (sq) (len) (cq) (by omega) z _ (hg.below K.below hg.size) (K.get _ _ _ List.mem_cons_self)) ?_
  rintro e w3 ⟨B, rfl, ⟨_, _, hh⟩, l⟩
  replace K := (K.call l).add _ _ _ hh.src0
  clear l hh
  refine ⟨_, rfl, ?_⟩
  simp only [Act.put, List.setIfInBounds_toArray, List.set_cons_zero, List.set_cons_succ]
  refine pureL (.slice (some ⟨B, 0, none⟩) len len) rfl (fun _ => by kernel_rfl) ?_
  simp only [Act.put, List.setIfInBounds_toArray, List.set_cons_zero, List.set_cons_succ]
  show Exit.then _ _ _ _ _
  go_upto_region 4 with fail
  refine wp_region_held_drew (S := fun w' => HL w w.heap.size k c n [(some ⟨B, 0, none⟩, len, (hxor k c n z)), (sq, len, z), (sp, len, z)] w') (by kernel_rfl) K.drew ?_
  clear K
  intro K
  refine pureH (i := 0) (some 20) rfl (.bool true) rfl rfl (fun _ => by kernel_rfl) (by kernel_rfl) (by kernel_rfl) (by kernel_rfl) (fun _ _ _ h => h) K ?_
  simp only [Act.put, List.setIfInBounds_toArray, List.set_cons_zero, List.set_cons_succ]
  refine pureH (i := 1) (some 21) rfl (.bool true) rfl rfl (fun _ => by kernel_rfl) (by kernel_rfl) (by kernel_rfl) (by kernel_rfl) (fun _ _ _ h => h) K ?_
  simp only [Act.put, List.setIfInBounds_toArray, List.set_cons_zero, List.set_cons_succ]
  refine pureH (i := 2) (some 22) rfl (.slice (some ⟨B, 0, none⟩) len len) rfl rfl (fun _ => by kernel_rfl) (by kernel_rfl) (by kernel_rfl) (by kernel_rfl) (fun _ _ _ h => h) K ?_
  simp only [Act.put, List.setIfInBounds_toArray, List.set_cons_zero, List.set_cons_succ]
  refine readH (i := 3) (some 23) rfl (.string (txt len (hxor k c n z))) rfl rfl (fun w h => conv_txt 36 5 9 _ rfl Tryd.underlying36 Tryd.underlying5 Tryd.underlying9 (some ⟨B, 0, none⟩) (len) (len) (hxor k c n z) rfl w (h.get _ _ _ List.mem_cons_self) (Src.none (h.get _ _ _ List.mem_cons_self))) (by kernel_rfl) (by kernel_rfl) (by kernel_rfl) (fun _ _ _ h => h) K ?_
  simp only [Act.put, List.setIfInBounds_toArray, List.set_cons_zero, List.set_cons_succ]
  refine pureH (i := 4) (some 24) rfl (.pointer (some ⟨w.heap.size, 0, none⟩)) rfl rfl (fun _ => by kernel_rfl) (by kernel_rfl) (by kernel_rfl) (by kernel_rfl) (fun _ _ _ h => h) K ?_
  simp only [Act.put, List.setIfInBounds_toArray, List.set_cons_zero, List.set_cons_succ]
  refine rowKH (i := 5) (some 25) rfl .u8 32 (k) (w.heap.size) 0 28 _ _ rfl rfl rfl rfl (by kernel_rfl) (by kernel_rfl) (by kernel_rfl) (fun _ _ _ h => h) Tryd.underlying28 rfl (key_info _) K (fun _ h => h.st.key) ?_
  simp only [Act.put, List.setIfInBounds_toArray, List.set_cons_zero, List.set_cons_succ]
  refine pureH (i := 6) (some 26) rfl (.pointer (some ⟨w.heap.size, 32, none⟩)) rfl rfl (fun _ => by kernel_rfl) (by kernel_rfl) (by kernel_rfl) (by kernel_rfl) (fun _ _ _ h => h) K ?_
  simp only [Act.put, List.setIfInBounds_toArray, List.set_cons_zero, List.set_cons_succ]
  refine cellH (i := 7) (some 27) rfl .u32 (.int .u32 c) (w.heap.size) 32 22 _ rfl rfl rfl rfl (by kernel_rfl) (by kernel_rfl) (by kernel_rfl) (fun _ _ _ h => h) Tryd.underlying22 K (fun _ h => h.st.ctr) ?_
  simp only [Act.put, List.setIfInBounds_toArray, List.set_cons_zero, List.set_cons_succ]
  refine pureH (i := 8) (some 28) rfl (.pointer (some ⟨w.heap.size, 33, none⟩)) rfl rfl (fun _ => by kernel_rfl) (by kernel_rfl) (by kernel_rfl) (by kernel_rfl) (fun _ _ _ h => h) K ?_
  simp only [Act.put, List.setIfInBounds_toArray, List.set_cons_zero, List.set_cons_succ]
  refine rowKH (i := 9) (some 29) rfl .u8 12 (n) (w.heap.size) 33 30 _ _ rfl rfl rfl rfl (by kernel_rfl) (by kernel_rfl) (by kernel_rfl) (fun _ _ _ h => h) Tryd.underlying30 rfl (hn_info _) K (fun _ h => h.st.non) ?_
  simp only [Act.put, List.setIfInBounds_toArray, List.set_cons_zero, List.set_cons_succ]
  refine pureH (i := 10) (some 30) rfl (.slice sp len cap) rfl rfl (fun _ => by kernel_rfl) (by kernel_rfl) (by kernel_rfl) (by kernel_rfl) (fun _ _ _ h => h) K ?_
  simp only [Act.put, List.setIfInBounds_toArray, List.set_cons_zero, List.set_cons_succ]
  refine callH (i := 11) (some 31) rfl (by kernel_rfl) rfl rfl (fun _ => by kernel_rfl) (refXor_any k c n hk hn sp len cap (by omega) z _ (K.get _ _ _ (List.mem_cons_of_mem _ (List.mem_cons_of_mem _ List.mem_cons_self)))) ?_
  rintro e w5 ⟨s5, c5, rfl, ⟨_, h5⟩, l⟩
  replace K := K.call l
  clear l
  refine ⟨_, rfl, K, ?_⟩
  simp only [Act.put, List.setIfInBounds_toArray, List.set_cons_zero, List.set_cons_succ]
  refine actH (i := 12) (some 32) rfl (.string (txt len (hxor k c n z))) (by kernel_rfl) rfl rfl (conv_txt 36 5 9 _ rfl Tryd.underlying36 Tryd.underlying5 Tryd.underlying9 (s5) (len) (c5) (hxor k c n z) rfl _ h5 (Src.none h5)) K ?_
  simp only [Act.put, List.setIfInBounds_toArray, List.set_cons_zero, List.set_cons_succ]
  refine pureH (i := 13) (some 33) rfl (.bool true) rfl rfl (fun w => eqlS _ _ _ _ _ _ rfl rfl rfl rfl w) (by kernel_rfl) (by kernel_rfl) (by kernel_rfl) (fun _ _ _ h => h) K ?_
  simp only [Act.put, List.setIfInBounds_toArray, List.set_cons_zero, List.set_cons_succ]
  refine pureH (i := 14) (some 34) rfl (.bool true) rfl rfl (fun _ => by kernel_rfl) (by kernel_rfl) (by kernel_rfl) (by kernel_rfl) (fun _ _ _ h => h) K ?_
  simp only [Act.put, List.setIfInBounds_toArray, List.set_cons_zero, List.set_cons_succ]
  refine pureH (i := 15) (some 35) rfl (.bool true) rfl rfl (fun _ => by kernel_rfl) (by kernel_rfl) (by kernel_rfl) (by kernel_rfl) (fun _ _ _ h => h) K ?_
  simp only [Act.put, List.setIfInBounds_toArray, List.set_cons_zero, List.set_cons_succ]
  refine pureH (i := 16) (some 36) rfl (.slice sq len cq) rfl rfl (fun _ => by kernel_rfl) (by kernel_rfl) (by kernel_rfl) (by kernel_rfl) (fun _ _ _ h => h) K ?_
  simp only [Act.put, List.setIfInBounds_toArray, List.set_cons_zero, List.set_cons_succ]
  refine readH (i := 17) (some 37) rfl (.string (txt len z)) rfl rfl (fun w h => conv_txt 36 5 9 _ rfl Tryd.underlying36 Tryd.underlying5 Tryd.underlying9 (sq) (len) (cq) z rfl w (h.get _ _ _ (List.mem_cons_of_mem _ List.mem_cons_self)) (Src.none (h.get _ _ _ (List.mem_cons_of_mem _ List.mem_cons_self)))) (by kernel_rfl) (by kernel_rfl) (by kernel_rfl) (fun _ _ _ h => h) K ?_
  simp only [Act.put, List.setIfInBounds_toArray, List.set_cons_zero, List.set_cons_succ]
  refine pureH (i := 18) (some 38) rfl (.slice sp len cap) rfl rfl (fun _ => by kernel_rfl) (by kernel_rfl) (by kernel_rfl) (by kernel_rfl) (fun _ _ _ h => h) K ?_
  simp only [Act.put, List.setIfInBounds_toArray, List.set_cons_zero, List.set_cons_succ]
  refine readH (i := 19) (some 39) rfl (.string (txt len z)) rfl rfl (fun w h => conv_txt 36 5 9 _ rfl Tryd.underlying36 Tryd.underlying5 Tryd.underlying9 (sp) (len) (cap) z rfl w (h.get _ _ _ (List.mem_cons_of_mem _ (List.mem_cons_of_mem _ List.mem_cons_self))) (Src.none (h.get _ _ _ (List.mem_cons_of_mem _ (List.mem_cons_of_mem _ List.mem_cons_self))))) (by kernel_rfl) (by kernel_rfl) (by kernel_rfl) (fun _ _ _ h => h) K ?_
  simp only [Act.put, List.setIfInBounds_toArray, List.set_cons_zero, List.set_cons_succ]
  refine pureH (i := 20) (some 40) rfl (.bool true) rfl rfl (fun w => eqlS _ _ _ _ _ _ rfl rfl rfl rfl w) (by kernel_rfl) (by kernel_rfl) (by kernel_rfl) (fun _ _ _ h => h) K ?_
  simp only [Act.put, List.setIfInBounds_toArray, List.set_cons_zero, List.set_cons_succ]
  refine pureH (i := 21) (some 41) rfl (.bool true) rfl rfl (fun _ => by kernel_rfl) (by kernel_rfl) (by kernel_rfl) (by kernel_rfl) (fun _ _ _ h => h) K ?_
  simp only [Act.put, List.setIfInBounds_toArray, List.set_cons_zero, List.set_cons_succ]
  refine pureH (i := 22) (some 4) rfl (.bool true) rfl rfl (fun _ => by kernel_rfl) (by kernel_rfl) (by kernel_rfl) (by kernel_rfl) (fun _ _ _ h => h) K ?_
  simp only [Act.put, List.setIfInBounds_toArray, List.set_cons_zero, List.set_cons_succ]
  refine wpAnyH_done (by kernel_rfl) ?_ _
  have hB := K.below
  clear K
  go_wp2
  go_ret
  exact ⟨rfl, hB⟩
end Go.Proofs.YtldebgblkaaojaaDoor
