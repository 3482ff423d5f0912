/- The walk of ChachaNext. -/
import Derived.Test.YtldebgblkaaojaaDoorHv
import Derived.Test.YtldebgblkaaojaaDoorLw
namespace Go.Proofs.YtldebgblkaaojaaDoor
open Go.RowKit

set_option maxRecDepth 10000 in
set_option maxHeartbeats 8000000 in
theorem law_ChachaNext (k : Nat → Int) (c : Int) (n : Nat → Int) (hk : In 256 32 k) (hn : In 256 12 n) (hc : 0 ≤ c ∧ c < V) (sp : Option Addr) (len cap : Nat) (hlen : len ≤ 140737488355327) (hcap : len ≤ cap) (z : Nat → Int) (w : World) (hg : HGlob w) (hs : Src w sp len z) :
    Calls Tryd.prog 7 #[(.agg (strm k c n).toArray), .slice sp len cap] w fun e w' => e = .returned (.bool true) ∧ Below w.heap.size w w' := by
  have K : HL w w.heap.size k c n [(sp, len, z)] (w.alloc (.cells (strm k c n).toArray 35)) := ⟨Str.new w k c n _, fun p hp => by obtain rfl := List.mem_singleton.1 hp; exact hs.below ((Below.refl w.heap.size w).alloc (Nat.le_refl _) _) (Nat.le_refl _), (Below.refl w.heap.size w).alloc (Nat.le_refl _) _⟩
  go_enter Tryd.func7, Tryd.ntmps7
  go_upto_region 1 with fail
  generalize (w.alloc (.cells (strm k c n).toArray 35)) = w0 at K ⊢
  refine wp_region_list ?_
  refine callL rfl (fun _ => by kernel_rfl) (hshown_any _ (hg.below K.below hg.size)) ?_
  rintro e w1 ⟨rfl, l⟩
  replace K := K.call l
  clear l
  refine ⟨_, rfl, ?_⟩
  simp only [Act.put, List.setIfInBounds_toArray, List.set_cons_zero, List.set_cons_succ]
  refine pureL (.bool true) rfl (fun _ => by kernel_rfl) ?_
  simp only [Act.put, List.setIfInBounds_toArray, List.set_cons_zero, List.set_cons_succ]
  show Exit.then _ _ _ _ _
  go_upto_region 2 with fail
  refine wp_region_list ?_
  refine pureL (.pointer (some ⟨w.heap.size, 0, none⟩)) rfl (fun _ => by kernel_rfl) ?_
  simp only [Act.put, List.setIfInBounds_toArray, List.set_cons_zero, List.set_cons_succ]
  refine rowKL .u8 32 (k) (w.heap.size) 0 28 _ _ rfl rfl rfl Tryd.underlying28 rfl (key_info _) (K.st.key) ?_
  simp only [Act.put, List.setIfInBounds_toArray, List.set_cons_zero, List.set_cons_succ]
  refine pureL (.pointer (some ⟨w.heap.size, 32, none⟩)) rfl (fun _ => by kernel_rfl) ?_
  simp only [Act.put, List.setIfInBounds_toArray, List.set_cons_zero, List.set_cons_succ]
  refine cellL .u32 (.int .u32 c) (w.heap.size) 32 22 _ rfl rfl rfl Tryd.underlying22 K.st.ctr ?_
  simp only [Act.put, List.setIfInBounds_toArray, List.set_cons_zero, List.set_cons_succ]
  refine pureL (.pointer (some ⟨w.heap.size, 33, none⟩)) rfl (fun _ => by kernel_rfl) ?_
  simp only [Act.put, List.setIfInBounds_toArray, List.set_cons_zero, List.set_cons_succ]
  refine rowKL .u8 12 (n) (w.heap.size) 33 30 _ _ rfl rfl rfl Tryd.underlying30 rfl (hn_info _) (K.st.non) ?_
  simp only [Act.put, List.setIfInBounds_toArray, List.set_cons_zero, List.set_cons_succ]
  refine pureL (.slice sp len cap) rfl (fun _ => by kernel_rfl) ?_
  simp only [Act.put, List.setIfInBounds_toArray, List.set_cons_zero, List.set_cons_succ]
  refine callL rfl (fun _ => by kernel_rfl) (hxor_any k c n hk hn hc (sp) (len) (cap) (by omega) z _ (hg.below K.below hg.size) (K.get _ _ _ List.mem_cons_self)) ?_
  rintro e w2 ⟨B, rfl, ⟨_, _, hh⟩, l⟩
  replace K := (K.call l).add _ _ _ hh.src0
  clear l hh
  refine ⟨_, rfl, ?_⟩
  simp only [Act.put, List.setIfInBounds_toArray, List.set_cons_zero, List.set_cons_succ]
  refine pureL (.slice (some ⟨B, 0, none⟩) len len) rfl (fun _ => by kernel_rfl) ?_
  simp only [Act.put, List.setIfInBounds_toArray, List.set_cons_zero, List.set_cons_succ]
  show Exit.then _ _ _ _ _
  by_cases h64 : len < 64
  · have g1 : (len : Int) < 64 := by omega
    have hB := K.below
    clear K
    go_wp2
    go_ret
    exact ⟨rfl, hB⟩
  · have g1 : ¬ (len : Int) < 64 := by omega
    obtain ⟨sx, hx1, hx2⟩ := cut_lo (P := Tryd.prog) (t := 36) (by kernel_rfl) (fun _ => by kernel_rfl) (some ⟨B, 0, none⟩) len len 64 (by omega) (Nat.le_refl _)
    obtain ⟨sy, hy1, hy2⟩ := cut_lo (P := Tryd.prog) (t := 36) (by kernel_rfl) (fun _ => by kernel_rfl) sp len cap 64 (by omega) hcap
    replace K := K.add sx (len - 64) (fun j => hxor k c n z (64 + j)) (hx2 _ _ (K.get _ _ _ List.mem_cons_self))
    replace K := K.add sy (len - 64) (fun j => z (64 + j)) (hy2 _ _ (K.get _ _ _ (List.mem_cons_of_mem _ (List.mem_cons_of_mem _ List.mem_cons_self))))
    go_upto_region 5 with fail
    refine wp_region_held_drew (S := fun w' => HL w w.heap.size k c n [(sy, (len - 64), (fun j => z (64 + j))), (sx, (len - 64), (fun j => hxor k c n z (64 + j))), (some ⟨B, 0, none⟩, len, (hxor k c n z)), (sp, len, z)] w') (by kernel_rfl) K.drew ?_
    clear K
    intro K
    refine pureH (i := 0) (some 34) rfl (.bool true) rfl rfl (fun _ => by kernel_rfl) (by kernel_rfl) (by kernel_rfl) (by kernel_rfl) (fun _ _ _ h => h) K ?_
    simp only [Act.put, List.setIfInBounds_toArray, List.set_cons_zero, List.set_cons_succ]
    refine pureH (i := 1) (some 35) rfl (.bool true) rfl rfl (fun _ => by kernel_rfl) (by kernel_rfl) (by kernel_rfl) (by kernel_rfl) (fun _ _ _ h => h) K ?_
    simp only [Act.put, List.setIfInBounds_toArray, List.set_cons_zero, List.set_cons_succ]
    refine pureH (i := 2) (some 36) rfl (.slice (some ⟨B, 0, none⟩) len len) rfl rfl (fun _ => by kernel_rfl) (by kernel_rfl) (by kernel_rfl) (by kernel_rfl) (fun _ _ _ h => h) K ?_
    simp only [Act.put, List.setIfInBounds_toArray, List.set_cons_zero, List.set_cons_succ]
    refine pureH (i := 3) (some 37) rfl (.slice sx (len - 64) (len - 64)) rfl rfl (fun w => cutOp _ _ _ _ _ _ rfl rfl rfl (hx1 w)) (by kernel_rfl) (by kernel_rfl) (by kernel_rfl) (fun _ _ _ h => h) K ?_
    simp only [Act.put, List.setIfInBounds_toArray, List.set_cons_zero, List.set_cons_succ]
    refine readH (i := 4) (some 38) rfl (.string (txt (len - 64) (fun j => hxor k c n z (64 + j)))) rfl rfl (fun w h => conv_txt 36 5 9 _ rfl Tryd.underlying36 Tryd.underlying5 Tryd.underlying9 (sx) ((len - 64)) (len - 64) (fun j => hxor k c n z (64 + j)) rfl w (h.get _ _ _ (List.mem_cons_of_mem _ List.mem_cons_self)) (Src.none (h.get _ _ _ (List.mem_cons_of_mem _ List.mem_cons_self)))) (by kernel_rfl) (by kernel_rfl) (by kernel_rfl) (fun _ _ _ h => h) K ?_
    simp only [Act.put, List.setIfInBounds_toArray, List.set_cons_zero, List.set_cons_succ]
    refine pureH (i := 5) (some 39) rfl (.pointer (some ⟨w.heap.size, 0, none⟩)) rfl rfl (fun _ => by kernel_rfl) (by kernel_rfl) (by kernel_rfl) (by kernel_rfl) (fun _ _ _ h => h) K ?_
    simp only [Act.put, List.setIfInBounds_toArray, List.set_cons_zero, List.set_cons_succ]
    refine rowKH (i := 6) (some 40) rfl .u8 32 (k) (w.heap.size) 0 28 _ _ rfl rfl rfl rfl (by kernel_rfl) (by kernel_rfl) (by kernel_rfl) (fun _ _ _ h => h) Tryd.underlying28 rfl (key_info _) K (fun _ h => h.st.key) ?_
    simp only [Act.put, List.setIfInBounds_toArray, List.set_cons_zero, List.set_cons_succ]
    refine pureH (i := 7) (some 41) rfl (.pointer (some ⟨w.heap.size, 32, none⟩)) rfl rfl (fun _ => by kernel_rfl) (by kernel_rfl) (by kernel_rfl) (by kernel_rfl) (fun _ _ _ h => h) K ?_
    simp only [Act.put, List.setIfInBounds_toArray, List.set_cons_zero, List.set_cons_succ]
    refine cellH (i := 8) (some 42) rfl .u32 (.int .u32 c) (w.heap.size) 32 22 _ rfl rfl rfl rfl (by kernel_rfl) (by kernel_rfl) (by kernel_rfl) (fun _ _ _ h => h) Tryd.underlying22 K (fun _ h => h.st.ctr) ?_
    simp only [Act.put, List.setIfInBounds_toArray, List.set_cons_zero, List.set_cons_succ]
    refine pureH (i := 9) (some 43) rfl (.int .u32 (had c 1)) rfl rfl (fun w => addI .u32 _ _ _ _ _ _ _ rfl rfl rfl (IntKind.wrap_u32' _) w) (by kernel_rfl) (by kernel_rfl) (by kernel_rfl) (fun _ _ _ h => h) K ?_
    simp only [Act.put, List.setIfInBounds_toArray, List.set_cons_zero, List.set_cons_succ]
    refine pureH (i := 10) (some 44) rfl (.pointer (some ⟨w.heap.size, 33, none⟩)) rfl rfl (fun _ => by kernel_rfl) (by kernel_rfl) (by kernel_rfl) (by kernel_rfl) (fun _ _ _ h => h) K ?_
    simp only [Act.put, List.setIfInBounds_toArray, List.set_cons_zero, List.set_cons_succ]
    refine rowKH (i := 11) (some 45) rfl .u8 12 (n) (w.heap.size) 33 30 _ _ rfl rfl rfl rfl (by kernel_rfl) (by kernel_rfl) (by kernel_rfl) (fun _ _ _ h => h) Tryd.underlying30 rfl (hn_info _) K (fun _ h => h.st.non) ?_
    simp only [Act.put, List.setIfInBounds_toArray, List.set_cons_zero, List.set_cons_succ]
    refine pureH (i := 12) (some 46) rfl (.slice sp len cap) rfl rfl (fun _ => by kernel_rfl) (by kernel_rfl) (by kernel_rfl) (by kernel_rfl) (fun _ _ _ h => h) K ?_
    simp only [Act.put, List.setIfInBounds_toArray, List.set_cons_zero, List.set_cons_succ]
    refine pureH (i := 13) (some 47) rfl (.slice sy (len - 64) (cap - 64)) rfl rfl (fun w => cutOp _ _ _ _ _ _ rfl rfl rfl (hy1 w)) (by kernel_rfl) (by kernel_rfl) (by kernel_rfl) (fun _ _ _ h => h) K ?_
    simp only [Act.put, List.setIfInBounds_toArray, List.set_cons_zero, List.set_cons_succ]
    refine callH (i := 14) (some 48) rfl (by kernel_rfl) rfl rfl (fun _ => by kernel_rfl) (hxor_any k (had c 1) n hk hn (had_in c 1) sy (len - 64) (cap - 64) (by omega) (fun j => z (64 + j)) _ (hg.below K.below hg.size) (K.get _ _ _ List.mem_cons_self)) ?_
    rintro e w4 ⟨F, rfl, ⟨_, _, hF⟩, l⟩
    replace K := K.call l
    clear l
    refine ⟨_, rfl, K, ?_⟩
    simp only [Act.put, List.setIfInBounds_toArray, List.set_cons_zero, List.set_cons_succ]
    refine actH (i := 15) (some 49) rfl (.string (txt (len - 64) (hxor k (had c 1) n (fun j => z (64 + j))))) (by kernel_rfl) rfl rfl (conv_txt 36 5 9 _ rfl Tryd.underlying36 Tryd.underlying5 Tryd.underlying9 (some ⟨F, 0, none⟩) ((len - 64)) (len - 64) (hxor k (had c 1) n (fun j => z (64 + j))) rfl _ hF.src0 (Src.none hF.src0)) K ?_
    simp only [Act.put, List.setIfInBounds_toArray, List.set_cons_zero, List.set_cons_succ]
    refine pureH (i := 16) (some 50) rfl (.bool true) rfl rfl (fun w => eqlS _ _ _ _ _ _ rfl rfl rfl (txt_congr (fun j _ => hxor_next k c n z j)) w) (by kernel_rfl) (by kernel_rfl) (by kernel_rfl) (fun _ _ _ h => h) K ?_
    simp only [Act.put, List.setIfInBounds_toArray, List.set_cons_zero, List.set_cons_succ]
    refine pureH (i := 17) (some 51) rfl (.bool true) rfl rfl (fun _ => by kernel_rfl) (by kernel_rfl) (by kernel_rfl) (by kernel_rfl) (fun _ _ _ h => h) K ?_
    simp only [Act.put, List.setIfInBounds_toArray, List.set_cons_zero, List.set_cons_succ]
    refine pureH (i := 18) (some 4) rfl (.bool true) rfl rfl (fun _ => by kernel_rfl) (by kernel_rfl) (by kernel_rfl) (by kernel_rfl) (fun _ _ _ h => h) K ?_
    simp only [Act.put, List.setIfInBounds_toArray, List.set_cons_zero, List.set_cons_succ]
    refine wpAnyH_done (by kernel_rfl) ?_ _
    have hB := K.below
    clear K
    go_wp2
    go_ret
    exact ⟨rfl, hB⟩
end Go.Proofs.YtldebgblkaaojaaDoor
