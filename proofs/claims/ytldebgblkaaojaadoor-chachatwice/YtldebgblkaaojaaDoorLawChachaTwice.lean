/- The walk of ChachaTwice. -/
import Derived.Test.YtldebgblkaaojaaDoorHv
import Derived.Test.YtldebgblkaaojaaDoorLw
namespace Go.Proofs.YtldebgblkaaojaaDoor
open Go.RowKit

set_option maxRecDepth 10000 in
set_option maxHeartbeats 8000000 in
theorem law_ChachaTwice (k : Nat → Int) (c : Int) (n : Nat → Int) (hk : In 256 32 k) (hn : In 256 12 n) (hc : 0 ≤ c ∧ c < V) (sp : Option Addr) (len cap : Nat) (hlen : len ≤ 140737488355327) (hcap : len ≤ cap) (z : Nat → Int) (hz : In 256 len z) (cut : Int) (hcut : -9223372036854775808 ≤ cut ∧ cut ≤ 9223372036854775807) (w : World) (hg : HGlob w) (hs : Src w sp len z) :
    Calls Tryd.prog 6 #[(.agg (strm k c n).toArray), .slice sp len cap, .int .i64 cut] w fun e w' => e = .returned (.bool true) ∧ Below w.heap.size w w' := by
  have K : HL w w.heap.size k c n [(sp, len, z)] (w.alloc (.cells (strm k c n).toArray 35)) := ⟨Str.new w k c n _, fun p hp => by obtain rfl := List.mem_singleton.1 hp; exact hs.below ((Below.refl w.heap.size w).alloc (Nat.le_refl _) _) (Nat.le_refl _), (Below.refl w.heap.size w).alloc (Nat.le_refl _) _⟩
  go_enter Tryd.func6, Tryd.ntmps6
  go_upto_region 1 with fail
  generalize (w.alloc (.cells (strm k c n).toArray 35)) = w0 at K ⊢
  refine wp_region_list ?_
  refine callL rfl (fun _ => by kernel_rfl) (hshown_any _ (hg.below K.below hg.size)) ?_
  rintro e w1 ⟨rfl, l⟩
  replace K := K.call l
  clear l
  refine ⟨_, rfl, ?_⟩
  simp only [Act.put, List.setIfInBounds_toArray, List.set_cons_zero, List.set_cons_succ]
  refine pureL (.bool true) rfl (fun _ => by kernel_rfl) ?_
  simp only [Act.put, List.setIfInBounds_toArray, List.set_cons_zero, List.set_cons_succ]
  show Exit.then _ _ _ _ _
  go_upto_region 2 with fail
  refine wp_region_list ?_
  refine pureL (.pointer (some ⟨w.heap.size, 0, none⟩)) rfl (fun _ => by kernel_rfl) ?_
  simp only [Act.put, List.setIfInBounds_toArray, List.set_cons_zero, List.set_cons_succ]
  refine rowKL .u8 32 (k) (w.heap.size) 0 28 _ _ rfl rfl rfl Tryd.underlying28 rfl (key_info _) (K.st.key) ?_
  simp only [Act.put, List.setIfInBounds_toArray, List.set_cons_zero, List.set_cons_succ]
  refine pureL (.pointer (some ⟨w.heap.size, 32, none⟩)) rfl (fun _ => by kernel_rfl) ?_
  simp only [Act.put, List.setIfInBounds_toArray, List.set_cons_zero, List.set_cons_succ]
  refine cellL .u32 (.int .u32 c) (w.heap.size) 32 22 _ rfl rfl rfl Tryd.underlying22 K.st.ctr ?_
  simp only [Act.put, List.setIfInBounds_toArray, List.set_cons_zero, List.set_cons_succ]
  refine pureL (.pointer (some ⟨w.heap.size, 33, none⟩)) rfl (fun _ => by kernel_rfl) ?_
  simp only [Act.put, List.setIfInBounds_toArray, List.set_cons_zero, List.set_cons_succ]
  refine rowKL .u8 12 (n) (w.heap.size) 33 30 _ _ rfl rfl rfl Tryd.underlying30 rfl (hn_info _) (K.st.non) ?_
  simp only [Act.put, List.setIfInBounds_toArray, List.set_cons_zero, List.set_cons_succ]
  refine pureL (.slice sp len cap) rfl (fun _ => by kernel_rfl) ?_
  simp only [Act.put, List.setIfInBounds_toArray, List.set_cons_zero, List.set_cons_succ]
  refine callL rfl (fun _ => by kernel_rfl) (hxor_any k c n hk hn hc (sp) (len) (cap) (by omega) z _ (hg.below K.below hg.size) (K.get _ _ _ List.mem_cons_self)) ?_
  rintro e w2 ⟨B, rfl, ⟨_, _, hh⟩, l⟩
  replace K := (K.call l).add _ _ _ hh.src0
  clear l hh
  refine ⟨_, rfl, ?_⟩
  simp only [Act.put, List.setIfInBounds_toArray, List.set_cons_zero, List.set_cons_succ]
  refine pureL (.slice (some ⟨B, 0, none⟩) len len) rfl (fun _ => by kernel_rfl) ?_
  simp only [Act.put, List.setIfInBounds_toArray, List.set_cons_zero, List.set_cons_succ]
  show Exit.then _ _ _ _ _
  by_cases hneg : cut < 0
  · obtain ⟨ct, hct⟩ : ∃ ct : Nat, (ct : Int) = -(cut + 1) := ⟨(-(cut + 1)).toNat, by omega⟩
    go_upto_region 4 with fail
    refine wp_region_list ?_
    refine pureL (.int .i64 cut) rfl (fun _ => by kernel_rfl) ?_
    simp only [Act.put, List.setIfInBounds_toArray, List.set_cons_zero, List.set_cons_succ]
    refine pureL (.int .i64 (cut + 1)) rfl (fun w => addI .i64 _ _ _ _ _ _ _ rfl rfl rfl (by rw [IntKind.wrap_i64]; omega) w) ?_
    simp only [Act.put, List.setIfInBounds_toArray, List.set_cons_zero, List.set_cons_succ]
    refine pureL (.int .i64 (ct : Int)) rfl (fun w => negI .i64 _ _ _ _ rfl rfl (by rw [IntKind.wrap_i64]; omega) w) ?_
    simp only [Act.put, List.setIfInBounds_toArray, List.set_cons_zero, List.set_cons_succ]
    refine pureL (.int .i64 (ct : Int)) rfl (fun _ => by kernel_rfl) ?_
    simp only [Act.put, List.setIfInBounds_toArray, List.set_cons_zero, List.set_cons_succ]
    show Exit.then _ _ _ _ _
    obtain ⟨N, hN⟩ : ∃ N : Nat, N = ct % (len + 1) := ⟨_, rfl⟩
    have hNl : N ≤ len := by have := Nat.mod_lt ct (show len + 1 > 0 by omega); omega
    go_upto_region 5 with fail
    refine wp_region_list ?_
    refine pureL (.int .i64 (ct : Int)) rfl (fun _ => by kernel_rfl) ?_
    simp only [Act.put, List.setIfInBounds_toArray, List.set_cons_zero, List.set_cons_succ]
    refine pureL (.slice sp len cap) rfl (fun _ => by kernel_rfl) ?_
    simp only [Act.put, List.setIfInBounds_toArray, List.set_cons_zero, List.set_cons_succ]
    refine pureL (.int .i64 (len : Int)) rfl (fun w => lenS _ 36 5 sp len cap rfl Tryd.underlying36 rfl w) ?_
    simp only [Act.put, List.setIfInBounds_toArray, List.set_cons_zero, List.set_cons_succ]
    refine pureL (.int .i64 ((len + 1 : Nat) : Int)) rfl (fun w => addI .i64 _ _ _ _ _ _ _ rfl rfl rfl (by rw [IntKind.wrap_i64]; omega) w) ?_
    simp only [Act.put, List.setIfInBounds_toArray, List.set_cons_zero, List.set_cons_succ]
    refine pureL (.int .i64 (N : Int)) rfl (fun w => remI .i64 _ _ _ _ _ _ _ rfl rfl rfl (by omega) (by rw [Int.tmod_eq_emod_of_nonneg (by omega), hN, Int.natCast_emod]) w) ?_
    simp only [Act.put, List.setIfInBounds_toArray, List.set_cons_zero, List.set_cons_succ]
    refine pureL (.int .i64 (N : Int)) rfl (fun _ => by kernel_rfl) ?_
    simp only [Act.put, List.setIfInBounds_toArray, List.set_cons_zero, List.set_cons_succ]
    show Exit.then _ _ _ _ _
    clear hN hct hneg hcut
    obtain ⟨sy, hy1, hy2⟩ := cut_hi (P := Tryd.prog) (t := 36) (by kernel_rfl) (fun _ => by kernel_rfl) sp len cap N hNl hcap
    replace K := K.add sy N z (hy2 _ _ (K.get _ _ _ (List.mem_cons_of_mem _ List.mem_cons_self)))
    obtain ⟨sx, hx1, hx2⟩ := cut_hi (P := Tryd.prog) (t := 36) (by kernel_rfl) (fun _ => by kernel_rfl) (some ⟨B, 0, none⟩) len len N hNl (Nat.le_refl _)
    replace K := K.add sx N (hxor k c n z) (hx2 _ _ (K.get _ _ _ (List.mem_cons_of_mem _ List.mem_cons_self)))
    go_upto_region 6 with fail
    refine wp_region_held_drew (S := fun w' => HL w w.heap.size k c n [(sx, N, (hxor k c n z)), (sy, N, z), (some ⟨B, 0, none⟩, len, (hxor k c n z)), (sp, len, z)] w') (by kernel_rfl) K.drew ?_
    clear K
    intro K
    refine pureH (i := 0) (some 30) rfl (.pointer (some ⟨w.heap.size, 0, none⟩)) rfl rfl (fun _ => by kernel_rfl) (by kernel_rfl) (by kernel_rfl) (by kernel_rfl) (fun _ _ _ h => h) K ?_
    simp only [Act.put, List.setIfInBounds_toArray, List.set_cons_zero, List.set_cons_succ]
    refine rowKH (i := 1) (some 31) rfl .u8 32 (k) (w.heap.size) 0 28 _ _ rfl rfl rfl rfl (by kernel_rfl) (by kernel_rfl) (by kernel_rfl) (fun _ _ _ h => h) Tryd.underlying28 rfl (key_info _) K (fun _ h => h.st.key) ?_
    simp only [Act.put, List.setIfInBounds_toArray, List.set_cons_zero, List.set_cons_succ]
    refine pureH (i := 2) (some 32) rfl (.pointer (some ⟨w.heap.size, 32, none⟩)) rfl rfl (fun _ => by kernel_rfl) (by kernel_rfl) (by kernel_rfl) (by kernel_rfl) (fun _ _ _ h => h) K ?_
    simp only [Act.put, List.setIfInBounds_toArray, List.set_cons_zero, List.set_cons_succ]
    refine cellH (i := 3) (some 33) rfl .u32 (.int .u32 c) (w.heap.size) 32 22 _ rfl rfl rfl rfl (by kernel_rfl) (by kernel_rfl) (by kernel_rfl) (fun _ _ _ h => h) Tryd.underlying22 K (fun _ h => h.st.ctr) ?_
    simp only [Act.put, List.setIfInBounds_toArray, List.set_cons_zero, List.set_cons_succ]
    refine pureH (i := 4) (some 34) rfl (.pointer (some ⟨w.heap.size, 33, none⟩)) rfl rfl (fun _ => by kernel_rfl) (by kernel_rfl) (by kernel_rfl) (by kernel_rfl) (fun _ _ _ h => h) K ?_
    simp only [Act.put, List.setIfInBounds_toArray, List.set_cons_zero, List.set_cons_succ]
    refine rowKH (i := 5) (some 35) rfl .u8 12 (n) (w.heap.size) 33 30 _ _ rfl rfl rfl rfl (by kernel_rfl) (by kernel_rfl) (by kernel_rfl) (fun _ _ _ h => h) Tryd.underlying30 rfl (hn_info _) K (fun _ h => h.st.non) ?_
    simp only [Act.put, List.setIfInBounds_toArray, List.set_cons_zero, List.set_cons_succ]
    refine pureH (i := 6) (some 36) rfl (.slice sp len cap) rfl rfl (fun _ => by kernel_rfl) (by kernel_rfl) (by kernel_rfl) (by kernel_rfl) (fun _ _ _ h => h) K ?_
    simp only [Act.put, List.setIfInBounds_toArray, List.set_cons_zero, List.set_cons_succ]
    refine pureH (i := 7) (some 37) rfl (.int .i64 (N : Int)) rfl rfl (fun _ => by kernel_rfl) (by kernel_rfl) (by kernel_rfl) (by kernel_rfl) (fun _ _ _ h => h) K ?_
    simp only [Act.put, List.setIfInBounds_toArray, List.set_cons_zero, List.set_cons_succ]
    refine pureH (i := 8) (some 38) rfl (.slice sy N cap) rfl rfl (fun w => cutHi _ _ _ _ _ _ rfl rfl rfl (hy1 w)) (by kernel_rfl) (by kernel_rfl) (by kernel_rfl) (fun _ _ _ h => h) K ?_
    simp only [Act.put, List.setIfInBounds_toArray, List.set_cons_zero, List.set_cons_succ]
    refine callH (i := 9) (some 39) rfl (by kernel_rfl) rfl rfl (fun _ => by kernel_rfl) (hxor_any k c n hk hn hc sy N cap (by omega) z _ (hg.below K.below hg.size) (K.get _ _ _ (List.mem_cons_of_mem _ List.mem_cons_self))) ?_
    rintro e w3 ⟨G, rfl, ⟨_, _, hG⟩, l⟩
    replace K := K.call l
    clear l
    refine ⟨_, rfl, K, ?_⟩
    simp only [Act.put, List.setIfInBounds_toArray, List.set_cons_zero, List.set_cons_succ]
    refine pureH (i := 10) (some 10) rfl (.slice (some ⟨G, 0, none⟩) N N) rfl rfl (fun _ => by kernel_rfl) (by kernel_rfl) (by kernel_rfl) (by kernel_rfl) (fun _ _ _ h => h) K ?_
    simp only [Act.put, List.setIfInBounds_toArray, List.set_cons_zero, List.set_cons_succ]
    refine wpAnyH_done (by kernel_rfl) ?_ _
    replace K := K.add (some ⟨G, 0, none⟩) N (hxor k c n z) hG.src0
    clear hG
    go_upto_region 7 with fail
    refine wp_region_held_drew (S := fun w' => HL w w.heap.size k c n [(some ⟨G, 0, none⟩, N, (hxor k c n z)), (sx, N, (hxor k c n z)), (sy, N, z), (some ⟨B, 0, none⟩, len, (hxor k c n z)), (sp, len, z)] w') (by kernel_rfl) K.drew ?_
    clear K
    intro K
    refine pureH (i := 0) (some 40) rfl (.bool true) rfl rfl (fun _ => by kernel_rfl) (by kernel_rfl) (by kernel_rfl) (by kernel_rfl) (fun _ _ _ h => h) K ?_
    simp only [Act.put, List.setIfInBounds_toArray, List.set_cons_zero, List.set_cons_succ]
    refine pureH (i := 1) (some 41) rfl (.bool true) rfl rfl (fun _ => by kernel_rfl) (by kernel_rfl) (by kernel_rfl) (by kernel_rfl) (fun _ _ _ h => h) K ?_
    simp only [Act.put, List.setIfInBounds_toArray, List.set_cons_zero, List.set_cons_succ]
    refine pureH (i := 2) (some 42) rfl (.pointer (some ⟨w.heap.size, 0, none⟩)) rfl rfl (fun _ => by kernel_rfl) (by kernel_rfl) (by kernel_rfl) (by kernel_rfl) (fun _ _ _ h => h) K ?_
    simp only [Act.put, List.setIfInBounds_toArray, List.set_cons_zero, List.set_cons_succ]
    refine rowKH (i := 3) (some 43) rfl .u8 32 (k) (w.heap.size) 0 28 _ _ rfl rfl rfl rfl (by kernel_rfl) (by kernel_rfl) (by kernel_rfl) (fun _ _ _ h => h) Tryd.underlying28 rfl (key_info _) K (fun _ h => h.st.key) ?_
    simp only [Act.put, List.setIfInBounds_toArray, List.set_cons_zero, List.set_cons_succ]
    refine pureH (i := 4) (some 44) rfl (.pointer (some ⟨w.heap.size, 32, none⟩)) rfl rfl (fun _ => by kernel_rfl) (by kernel_rfl) (by kernel_rfl) (by kernel_rfl) (fun _ _ _ h => h) K ?_
    simp only [Act.put, List.setIfInBounds_toArray, List.set_cons_zero, List.set_cons_succ]
    refine cellH (i := 5) (some 45) rfl .u32 (.int .u32 c) (w.heap.size) 32 22 _ rfl rfl rfl rfl (by kernel_rfl) (by kernel_rfl) (by kernel_rfl) (fun _ _ _ h => h) Tryd.underlying22 K (fun _ h => h.st.ctr) ?_
    simp only [Act.put, List.setIfInBounds_toArray, List.set_cons_zero, List.set_cons_succ]
    refine pureH (i := 6) (some 46) rfl (.pointer (some ⟨w.heap.size, 33, none⟩)) rfl rfl (fun _ => by kernel_rfl) (by kernel_rfl) (by kernel_rfl) (by kernel_rfl) (fun _ _ _ h => h) K ?_
    simp only [Act.put, List.setIfInBounds_toArray, List.set_cons_zero, List.set_cons_succ]
    refine rowKH (i := 7) (some 47) rfl .u8 12 (n) (w.heap.size) 33 30 _ _ rfl rfl rfl rfl (by kernel_rfl) (by kernel_rfl) (by kernel_rfl) (fun _ _ _ h => h) Tryd.underlying30 rfl (hn_info _) K (fun _ h => h.st.non) ?_
    simp only [Act.put, List.setIfInBounds_toArray, List.set_cons_zero, List.set_cons_succ]
    refine pureH (i := 8) (some 48) rfl (.slice (some ⟨B, 0, none⟩) len len) rfl rfl (fun _ => by kernel_rfl) (by kernel_rfl) (by kernel_rfl) (by kernel_rfl) (fun _ _ _ h => h) K ?_
    simp only [Act.put, List.setIfInBounds_toArray, List.set_cons_zero, List.set_cons_succ]
    refine pureH (i := 11) (some 51) rfl (.slice sp len cap) rfl rfl (fun _ => by kernel_rfl) (by kernel_rfl) (by kernel_rfl) (by kernel_rfl) (fun _ _ _ h => h) K ?_
    simp only [Act.put, List.setIfInBounds_toArray, List.set_cons_zero, List.set_cons_succ]
    refine readH (i := 12) (some 52) rfl (.string (txt len z)) rfl rfl (fun w h => conv_txt 36 5 9 _ rfl Tryd.underlying36 Tryd.underlying5 Tryd.underlying9 (sp) (len) (cap) z rfl w (h.get _ _ _ (List.mem_cons_of_mem _ (List.mem_cons_of_mem _ (List.mem_cons_of_mem _ (List.mem_cons_of_mem _ List.mem_cons_self))))) (Src.none (h.get _ _ _ (List.mem_cons_of_mem _ (List.mem_cons_of_mem _ (List.mem_cons_of_mem _ (List.mem_cons_of_mem _ List.mem_cons_self))))))) (by kernel_rfl) (by kernel_rfl) (by kernel_rfl) (fun _ _ _ h => h) K ?_
    simp only [Act.put, List.setIfInBounds_toArray, List.set_cons_zero, List.set_cons_succ]
    refine callH (i := 9) (some 49) rfl (by kernel_rfl) rfl rfl (fun _ => by kernel_rfl) (hxor_any k c n hk hn hc (some ⟨B, 0, none⟩) len len (by omega) (hxor k c n z) _ (hg.below K.below hg.size) (K.get _ _ _ (List.mem_cons_of_mem _ (List.mem_cons_of_mem _ (List.mem_cons_of_mem _ List.mem_cons_self))))) ?_
    rintro e w4 ⟨F, rfl, ⟨_, _, hF⟩, l⟩
    replace K := K.call l
    clear l
    refine ⟨_, rfl, K, ?_⟩
    simp only [Act.put, List.setIfInBounds_toArray, List.set_cons_zero, List.set_cons_succ]
    refine actH (i := 10) (some 50) rfl (.string (txt len (hxor k c n (hxor k c n z)))) (by kernel_rfl) rfl rfl (conv_txt 36 5 9 _ rfl Tryd.underlying36 Tryd.underlying5 Tryd.underlying9 (some ⟨F, 0, none⟩) (len) (len) (hxor k c n (hxor k c n z)) rfl _ hF.src0 (Src.none hF.src0)) K ?_
    simp only [Act.put, List.setIfInBounds_toArray, List.set_cons_zero, List.set_cons_succ]
    refine pureH (i := 13) (some 53) rfl (.bool true) rfl rfl (fun w => eqlS _ _ _ _ _ _ rfl rfl rfl (txt_congr (hxor_twice k c n z len hz)) w) (by kernel_rfl) (by kernel_rfl) (by kernel_rfl) (fun _ _ _ h => h) K ?_
    simp only [Act.put, List.setIfInBounds_toArray, List.set_cons_zero, List.set_cons_succ]
    refine pureH (i := 14) (some 54) rfl (.bool true) rfl rfl (fun _ => by kernel_rfl) (by kernel_rfl) (by kernel_rfl) (by kernel_rfl) (fun _ _ _ h => h) K ?_
    simp only [Act.put, List.setIfInBounds_toArray, List.set_cons_zero, List.set_cons_succ]
    refine pureH (i := 15) (some 55) rfl (.bool true) rfl rfl (fun _ => by kernel_rfl) (by kernel_rfl) (by kernel_rfl) (by kernel_rfl) (fun _ _ _ h => h) K ?_
    simp only [Act.put, List.setIfInBounds_toArray, List.set_cons_zero, List.set_cons_succ]
    refine pureH (i := 16) (some 56) rfl (.slice (some ⟨B, 0, none⟩) len len) rfl rfl (fun _ => by kernel_rfl) (by kernel_rfl) (by kernel_rfl) (by kernel_rfl) (fun _ _ _ h => h) K ?_
    simp only [Act.put, List.setIfInBounds_toArray, List.set_cons_zero, List.set_cons_succ]
    refine pureH (i := 17) (some 57) rfl (.int .i64 (len : Int)) rfl rfl (fun w => lenS _ 36 5 _ len len rfl Tryd.underlying36 rfl w) (by kernel_rfl) (by kernel_rfl) (by kernel_rfl) (fun _ _ _ h => h) K ?_
    simp only [Act.put, List.setIfInBounds_toArray, List.set_cons_zero, List.set_cons_succ]
    refine pureH (i := 18) (some 58) rfl (.slice sp len cap) rfl rfl (fun _ => by kernel_rfl) (by kernel_rfl) (by kernel_rfl) (by kernel_rfl) (fun _ _ _ h => h) K ?_
    simp only [Act.put, List.setIfInBounds_toArray, List.set_cons_zero, List.set_cons_succ]
    refine pureH (i := 19) (some 59) rfl (.int .i64 (len : Int)) rfl rfl (fun w => lenS _ 36 5 sp len cap rfl Tryd.underlying36 rfl w) (by kernel_rfl) (by kernel_rfl) (by kernel_rfl) (fun _ _ _ h => h) K ?_
    simp only [Act.put, List.setIfInBounds_toArray, List.set_cons_zero, List.set_cons_succ]
    refine pureH (i := 20) (some 60) rfl (.bool true) rfl rfl (fun w => eqlI .i64 _ _ _ _ _ _ rfl rfl rfl true (by simp) w) (by kernel_rfl) (by kernel_rfl) (by kernel_rfl) (fun _ _ _ h => h) K ?_
    simp only [Act.put, List.setIfInBounds_toArray, List.set_cons_zero, List.set_cons_succ]
    refine pureH (i := 21) (some 61) rfl (.bool true) rfl rfl (fun _ => by kernel_rfl) (by kernel_rfl) (by kernel_rfl) (by kernel_rfl) (fun _ _ _ h => h) K ?_
    simp only [Act.put, List.setIfInBounds_toArray, List.set_cons_zero, List.set_cons_succ]
    refine pureH (i := 22) (some 62) rfl (.bool true) rfl rfl (fun _ => by kernel_rfl) (by kernel_rfl) (by kernel_rfl) (by kernel_rfl) (fun _ _ _ h => h) K ?_
    simp only [Act.put, List.setIfInBounds_toArray, List.set_cons_zero, List.set_cons_succ]
    refine pureH (i := 23) (some 63) rfl (.slice (some ⟨B, 0, none⟩) len len) rfl rfl (fun _ => by kernel_rfl) (by kernel_rfl) (by kernel_rfl) (by kernel_rfl) (fun _ _ _ h => h) K ?_
    simp only [Act.put, List.setIfInBounds_toArray, List.set_cons_zero, List.set_cons_succ]
    refine pureH (i := 24) (some 64) rfl (.int .i64 (N : Int)) rfl rfl (fun _ => by kernel_rfl) (by kernel_rfl) (by kernel_rfl) (by kernel_rfl) (fun _ _ _ h => h) K ?_
    simp only [Act.put, List.setIfInBounds_toArray, List.set_cons_zero, List.set_cons_succ]
    refine pureH (i := 25) (some 65) rfl (.slice sx N len) rfl rfl (fun w => cutHi _ _ _ _ _ _ rfl rfl rfl (hx1 w)) (by kernel_rfl) (by kernel_rfl) (by kernel_rfl) (fun _ _ _ h => h) K ?_
    simp only [Act.put, List.setIfInBounds_toArray, List.set_cons_zero, List.set_cons_succ]
    refine readH (i := 26) (some 66) rfl (.string (txt N (hxor k c n z))) rfl rfl (fun w h => conv_txt 36 5 9 _ rfl Tryd.underlying36 Tryd.underlying5 Tryd.underlying9 (sx) (N) (len) (hxor k c n z) rfl w (h.get _ _ _ (List.mem_cons_of_mem _ List.mem_cons_self)) (Src.none (h.get _ _ _ (List.mem_cons_of_mem _ List.mem_cons_self)))) (by kernel_rfl) (by kernel_rfl) (by kernel_rfl) (fun _ _ _ h => h) K ?_
    simp only [Act.put, List.setIfInBounds_toArray, List.set_cons_zero, List.set_cons_succ]
    refine pureH (i := 27) (some 67) rfl (.slice (some ⟨G, 0, none⟩) N N) rfl rfl (fun _ => by kernel_rfl) (by kernel_rfl) (by kernel_rfl) (by kernel_rfl) (fun _ _ _ h => h) K ?_
    simp only [Act.put, List.setIfInBounds_toArray, List.set_cons_zero, List.set_cons_succ]
    refine readH (i := 28) (some 68) rfl (.string (txt N (hxor k c n z))) rfl rfl (fun w h => conv_txt 36 5 9 _ rfl Tryd.underlying36 Tryd.underlying5 Tryd.underlying9 (some ⟨G, 0, none⟩) (N) (N) (hxor k c n z) rfl w (h.get _ _ _ List.mem_cons_self) (Src.none (h.get _ _ _ List.mem_cons_self))) (by kernel_rfl) (by kernel_rfl) (by kernel_rfl) (fun _ _ _ h => h) K ?_
    simp only [Act.put, List.setIfInBounds_toArray, List.set_cons_zero, List.set_cons_succ]
    refine pureH (i := 29) (some 69) rfl (.bool true) rfl rfl (fun w => eqlS _ _ _ _ _ _ rfl rfl rfl rfl w) (by kernel_rfl) (by kernel_rfl) (by kernel_rfl) (fun _ _ _ h => h) K ?_
    simp only [Act.put, List.setIfInBounds_toArray, List.set_cons_zero, List.set_cons_succ]
    refine pureH (i := 30) (some 70) rfl (.bool true) rfl rfl (fun _ => by kernel_rfl) (by kernel_rfl) (by kernel_rfl) (by kernel_rfl) (fun _ _ _ h => h) K ?_
    simp only [Act.put, List.setIfInBounds_toArray, List.set_cons_zero, List.set_cons_succ]
    refine pureH (i := 31) (some 6) rfl (.bool true) rfl rfl (fun _ => by kernel_rfl) (by kernel_rfl) (by kernel_rfl) (by kernel_rfl) (fun _ _ _ h => h) K ?_
    simp only [Act.put, List.setIfInBounds_toArray, List.set_cons_zero, List.set_cons_succ]
    refine wpAnyH_done (by kernel_rfl) ?_ _
    have hB := K.below
    clear K
    go_wp2
    go_ret
    exact ⟨rfl, hB⟩
  · obtain ⟨ct, hct⟩ : ∃ ct : Nat, (ct : Int) = cut := ⟨cut.toNat, by omega⟩
    rw [← hct]
    rw [← hct] at hneg
    obtain ⟨N, hN⟩ : ∃ N : Nat, N = ct % (len + 1) := ⟨_, rfl⟩
    have hNl : N ≤ len := by have := Nat.mod_lt ct (show len + 1 > 0 by omega); omega
    go_upto_region 5 with fail
    refine wp_region_list ?_
    refine pureL (.int .i64 (ct : Int)) rfl (fun _ => by kernel_rfl) ?_
    simp only [Act.put, List.setIfInBounds_toArray, List.set_cons_zero, List.set_cons_succ]
    refine pureL (.slice sp len cap) rfl (fun _ => by kernel_rfl) ?_
    simp only [Act.put, List.setIfInBounds_toArray, List.set_cons_zero, List.set_cons_succ]
    refine pureL (.int .i64 (len : Int)) rfl (fun w => lenS _ 36 5 sp len cap rfl Tryd.underlying36 rfl w) ?_
    simp only [Act.put, List.setIfInBounds_toArray, List.set_cons_zero, List.set_cons_succ]
    refine pureL (.int .i64 ((len + 1 : Nat) : Int)) rfl (fun w => addI .i64 _ _ _ _ _ _ _ rfl rfl rfl (by rw [IntKind.wrap_i64]; omega) w) ?_
    simp only [Act.put, List.setIfInBounds_toArray, List.set_cons_zero, List.set_cons_succ]
    refine pureL (.int .i64 (N : Int)) rfl (fun w => remI .i64 _ _ _ _ _ _ _ rfl rfl rfl (by omega) (by rw [Int.tmod_eq_emod_of_nonneg (by omega), hN, Int.natCast_emod]) w) ?_
    simp only [Act.put, List.setIfInBounds_toArray, List.set_cons_zero, List.set_cons_succ]
    refine pureL (.int .i64 (N : Int)) rfl (fun _ => by kernel_rfl) ?_
    simp only [Act.put, List.setIfInBounds_toArray, List.set_cons_zero, List.set_cons_succ]
    show Exit.then _ _ _ _ _
    clear hN hct hneg hcut
    obtain ⟨sy, hy1, hy2⟩ := cut_hi (P := Tryd.prog) (t := 36) (by kernel_rfl) (fun _ => by kernel_rfl) sp len cap N hNl hcap
    replace K := K.add sy N z (hy2 _ _ (K.get _ _ _ (List.mem_cons_of_mem _ List.mem_cons_self)))
    obtain ⟨sx, hx1, hx2⟩ := cut_hi (P := Tryd.prog) (t := 36) (by kernel_rfl) (fun _ => by kernel_rfl) (some ⟨B, 0, none⟩) len len N hNl (Nat.le_refl _)
    replace K := K.add sx N (hxor k c n z) (hx2 _ _ (K.get _ _ _ (List.mem_cons_of_mem _ List.mem_cons_self)))
    go_upto_region 6 with fail
    refine wp_region_held_drew (S := fun w' => HL w w.heap.size k c n [(sx, N, (hxor k c n z)), (sy, N, z), (some ⟨B, 0, none⟩, len, (hxor k c n z)), (sp, len, z)] w') (by kernel_rfl) K.drew ?_
    clear K
    intro K
    refine pureH (i := 0) (some 30) rfl (.pointer (some ⟨w.heap.size, 0, none⟩)) rfl rfl (fun _ => by kernel_rfl) (by kernel_rfl) (by kernel_rfl) (by kernel_rfl) (fun _ _ _ h => h) K ?_
    simp only [Act.put, List.setIfInBounds_toArray, List.set_cons_zero, List.set_cons_succ]
    refine rowKH (i := 1) (some 31) rfl .u8 32 (k) (w.heap.size) 0 28 _ _ rfl rfl rfl rfl (by kernel_rfl) (by kernel_rfl) (by kernel_rfl) (fun _ _ _ h => h) Tryd.underlying28 rfl (key_info _) K (fun _ h => h.st.key) ?_
    simp only [Act.put, List.setIfInBounds_toArray, List.set_cons_zero, List.set_cons_succ]
    refine pureH (i := 2) (some 32) rfl (.pointer (some ⟨w.heap.size, 32, none⟩)) rfl rfl (fun _ => by kernel_rfl) (by kernel_rfl) (by kernel_rfl) (by kernel_rfl) (fun _ _ _ h => h) K ?_
    simp only [Act.put, List.setIfInBounds_toArray, List.set_cons_zero, List.set_cons_succ]
    refine cellH (i := 3) (some 33) rfl .u32 (.int .u32 c) (w.heap.size) 32 22 _ rfl rfl rfl rfl (by kernel_rfl) (by kernel_rfl) (by kernel_rfl) (fun _ _ _ h => h) Tryd.underlying22 K (fun _ h => h.st.ctr) ?_
    simp only [Act.put, List.setIfInBounds_toArray, List.set_cons_zero, List.set_cons_succ]
    refine pureH (i := 4) (some 34) rfl (.pointer (some ⟨w.heap.size, 33, none⟩)) rfl rfl (fun _ => by kernel_rfl) (by kernel_rfl) (by kernel_rfl) (by kernel_rfl) (fun _ _ _ h => h) K ?_
    simp only [Act.put, List.setIfInBounds_toArray, List.set_cons_zero, List.set_cons_succ]
    refine rowKH (i := 5) (some 35) rfl .u8 12 (n) (w.heap.size) 33 30 _ _ rfl rfl rfl rfl (by kernel_rfl) (by kernel_rfl) (by kernel_rfl) (fun _ _ _ h => h) Tryd.underlying30 rfl (hn_info _) K (fun _ h => h.st.non) ?_
    simp only [Act.put, List.setIfInBounds_toArray, List.set_cons_zero, List.set_cons_succ]
    refine pureH (i := 6) (some 36) rfl (.slice sp len cap) rfl rfl (fun _ => by kernel_rfl) (by kernel_rfl) (by kernel_rfl) (by kernel_rfl) (fun _ _ _ h => h) K ?_
    simp only [Act.put, List.setIfInBounds_toArray, List.set_cons_zero, List.set_cons_succ]
    refine pureH (i := 7) (some 37) rfl (.int .i64 (N : Int)) rfl rfl (fun _ => by kernel_rfl) (by kernel_rfl) (by kernel_rfl) (by kernel_rfl) (fun _ _ _ h => h) K ?_
    simp only [Act.put, List.setIfInBounds_toArray, List.set_cons_zero, List.set_cons_succ]
    refine pureH (i := 8) (some 38) rfl (.slice sy N cap) rfl rfl (fun w => cutHi _ _ _ _ _ _ rfl rfl rfl (hy1 w)) (by kernel_rfl) (by kernel_rfl) (by kernel_rfl) (fun _ _ _ h => h) K ?_
    simp only [Act.put, List.setIfInBounds_toArray, List.set_cons_zero, List.set_cons_succ]
    refine callH (i := 9) (some 39) rfl (by kernel_rfl) rfl rfl (fun _ => by kernel_rfl) (hxor_any k c n hk hn hc sy N cap (by omega) z _ (hg.below K.below hg.size) (K.get _ _ _ (List.mem_cons_of_mem _ List.mem_cons_self))) ?_
    rintro e w3 ⟨G, rfl, ⟨_, _, hG⟩, l⟩
    replace K := K.call l
    clear l
    refine ⟨_, rfl, K, ?_⟩
    simp only [Act.put, List.setIfInBounds_toArray, List.set_cons_zero, List.set_cons_succ]
    refine pureH (i := 10) (some 10) rfl (.slice (some ⟨G, 0, none⟩) N N) rfl rfl (fun _ => by kernel_rfl) (by kernel_rfl) (by kernel_rfl) (by kernel_rfl) (fun _ _ _ h => h) K ?_
    simp only [Act.put, List.setIfInBounds_toArray, List.set_cons_zero, List.set_cons_succ]
    refine wpAnyH_done (by kernel_rfl) ?_ _
    replace K := K.add (some ⟨G, 0, none⟩) N (hxor k c n z) hG.src0
    clear hG
    go_upto_region 7 with fail
    refine wp_region_held_drew (S := fun w' => HL w w.heap.size k c n [(some ⟨G, 0, none⟩, N, (hxor k c n z)), (sx, N, (hxor k c n z)), (sy, N, z), (some ⟨B, 0, none⟩, len, (hxor k c n z)), (sp, len, z)] w') (by kernel_rfl) K.drew ?_
    clear K
    intro K
    refine pureH (i := 0) (some 40) rfl (.bool true) rfl rfl (fun _ => by kernel_rfl) (by kernel_rfl) (by kernel_rfl) (by kernel_rfl) (fun _ _ _ h => h) K ?_
    simp only [Act.put, List.setIfInBounds_toArray, List.set_cons_zero, List.set_cons_succ]
    refine pureH (i := 1) (some 41) rfl (.bool true) rfl rfl (fun _ => by kernel_rfl) (by kernel_rfl) (by kernel_rfl) (by kernel_rfl) (fun _ _ _ h => h) K ?_
    simp only [Act.put, List.setIfInBounds_toArray, List.set_cons_zero, List.set_cons_succ]
    refine pureH (i := 2) (some 42) rfl (.pointer (some ⟨w.heap.size, 0, none⟩)) rfl rfl (fun _ => by kernel_rfl) (by kernel_rfl) (by kernel_rfl) (by kernel_rfl) (fun _ _ _ h => h) K ?_
    simp only [Act.put, List.setIfInBounds_toArray, List.set_cons_zero, List.set_cons_succ]
    refine rowKH (i := 3) (some 43) rfl .u8 32 (k) (w.heap.size) 0 28 _ _ rfl rfl rfl rfl (by kernel_rfl) (by kernel_rfl) (by kernel_rfl) (fun _ _ _ h => h) Tryd.underlying28 rfl (key_info _) K (fun _ h => h.st.key) ?_
    simp only [Act.put, List.setIfInBounds_toArray, List.set_cons_zero, List.set_cons_succ]
    refine pureH (i := 4) (some 44) rfl (.pointer (some ⟨w.heap.size, 32, none⟩)) rfl rfl (fun _ => by kernel_rfl) (by kernel_rfl) (by kernel_rfl) (by kernel_rfl) (fun _ _ _ h => h) K ?_
    simp only [Act.put, List.setIfInBounds_toArray, List.set_cons_zero, List.set_cons_succ]
    refine cellH (i := 5) (some 45) rfl .u32 (.int .u32 c) (w.heap.size) 32 22 _ rfl rfl rfl rfl (by kernel_rfl) (by kernel_rfl) (by kernel_rfl) (fun _ _ _ h => h) Tryd.underlying22 K (fun _ h => h.st.ctr) ?_
    simp only [Act.put, List.setIfInBounds_toArray, List.set_cons_zero, List.set_cons_succ]
    refine pureH (i := 6) (some 46) rfl (.pointer (some ⟨w.heap.size, 33, none⟩)) rfl rfl (fun _ => by kernel_rfl) (by kernel_rfl) (by kernel_rfl) (by kernel_rfl) (fun _ _ _ h => h) K ?_
    simp only [Act.put, List.setIfInBounds_toArray, List.set_cons_zero, List.set_cons_succ]
    refine rowKH (i := 7) (some 47) rfl .u8 12 (n) (w.heap.size) 33 30 _ _ rfl rfl rfl rfl (by kernel_rfl) (by kernel_rfl) (by kernel_rfl) (fun _ _ _ h => h) Tryd.underlying30 rfl (hn_info _) K (fun _ h => h.st.non) ?_
    simp only [Act.put, List.setIfInBounds_toArray, List.set_cons_zero, List.set_cons_succ]
    refine pureH (i := 8) (some 48) rfl (.slice (some ⟨B, 0, none⟩) len len) rfl rfl (fun _ => by kernel_rfl) (by kernel_rfl) (by kernel_rfl) (by kernel_rfl) (fun _ _ _ h => h) K ?_
    simp only [Act.put, List.setIfInBounds_toArray, List.set_cons_zero, List.set_cons_succ]
    refine pureH (i := 11) (some 51) rfl (.slice sp len cap) rfl rfl (fun _ => by kernel_rfl) (by kernel_rfl) (by kernel_rfl) (by kernel_rfl) (fun _ _ _ h => h) K ?_
    simp only [Act.put, List.setIfInBounds_toArray, List.set_cons_zero, List.set_cons_succ]
    refine readH (i := 12) (some 52) rfl (.string (txt len z)) rfl rfl (fun w h => conv_txt 36 5 9 _ rfl Tryd.underlying36 Tryd.underlying5 Tryd.underlying9 (sp) (len) (cap) z rfl w (h.get _ _ _ (List.mem_cons_of_mem _ (List.mem_cons_of_mem _ (List.mem_cons_of_mem _ (List.mem_cons_of_mem _ List.mem_cons_self))))) (Src.none (h.get _ _ _ (List.mem_cons_of_mem _ (List.mem_cons_of_mem _ (List.mem_cons_of_mem _ (List.mem_cons_of_mem _ List.mem_cons_self))))))) (by kernel_rfl) (by kernel_rfl) (by kernel_rfl) (fun _ _ _ h => h) K ?_
    simp only [Act.put, List.setIfInBounds_toArray, List.set_cons_zero, List.set_cons_succ]
    refine callH (i := 9) (some 49) rfl (by kernel_rfl) rfl rfl (fun _ => by kernel_rfl) (hxor_any k c n hk hn hc (some ⟨B, 0, none⟩) len len (by omega) (hxor k c n z) _ (hg.below K.below hg.size) (K.get _ _ _ (List.mem_cons_of_mem _ (List.mem_cons_of_mem _ (List.mem_cons_of_mem _ List.mem_cons_self))))) ?_
    rintro e w4 ⟨F, rfl, ⟨_, _, hF⟩, l⟩
    replace K := K.call l
    clear l
    refine ⟨_, rfl, K, ?_⟩
    simp only [Act.put, List.setIfInBounds_toArray, List.set_cons_zero, List.set_cons_succ]
    refine actH (i := 10) (some 50) rfl (.string (txt len (hxor k c n (hxor k c n z)))) (by kernel_rfl) rfl rfl (conv_txt 36 5 9 _ rfl Tryd.underlying36 Tryd.underlying5 Tryd.underlying9 (some ⟨F, 0, none⟩) (len) (len) (hxor k c n (hxor k c n z)) rfl _ hF.src0 (Src.none hF.src0)) K ?_
    simp only [Act.put, List.setIfInBounds_toArray, List.set_cons_zero, List.set_cons_succ]
    refine pureH (i := 13) (some 53) rfl (.bool true) rfl rfl (fun w => eqlS _ _ _ _ _ _ rfl rfl rfl (txt_congr (hxor_twice k c n z len hz)) w) (by kernel_rfl) (by kernel_rfl) (by kernel_rfl) (fun _ _ _ h => h) K ?_
    simp only [Act.put, List.setIfInBounds_toArray, List.set_cons_zero, List.set_cons_succ]
    refine pureH (i := 14) (some 54) rfl (.bool true) rfl rfl (fun _ => by kernel_rfl) (by kernel_rfl) (by kernel_rfl) (by kernel_rfl) (fun _ _ _ h => h) K ?_
    simp only [Act.put, List.setIfInBounds_toArray, List.set_cons_zero, List.set_cons_succ]
    refine pureH (i := 15) (some 55) rfl (.bool true) rfl rfl (fun _ => by kernel_rfl) (by kernel_rfl) (by kernel_rfl) (by kernel_rfl) (fun _ _ _ h => h) K ?_
    simp only [Act.put, List.setIfInBounds_toArray, List.set_cons_zero, List.set_cons_succ]
    refine pureH (i := 16) (some 56) rfl (.slice (some ⟨B, 0, none⟩) len len) rfl rfl (fun _ => by kernel_rfl) (by kernel_rfl) (by kernel_rfl) (by kernel_rfl) (fun _ _ _ h => h) K ?_
    simp only [Act.put, List.setIfInBounds_toArray, List.set_cons_zero, List.set_cons_succ]
    refine pureH (i := 17) (some 57) rfl (.int .i64 (len : Int)) rfl rfl (fun w => lenS _ 36 5 _ len len rfl Tryd.underlying36 rfl w) (by kernel_rfl) (by kernel_rfl) (by kernel_rfl) (fun _ _ _ h => h) K ?_
    simp only [Act.put, List.setIfInBounds_toArray, List.set_cons_zero, List.set_cons_succ]
    refine pureH (i := 18) (some 58) rfl (.slice sp len cap) rfl rfl (fun _ => by kernel_rfl) (by kernel_rfl) (by kernel_rfl) (by kernel_rfl) (fun _ _ _ h => h) K ?_
    simp only [Act.put, List.setIfInBounds_toArray, List.set_cons_zero, List.set_cons_succ]
    refine pureH (i := 19) (some 59) rfl (.int .i64 (len : Int)) rfl rfl (fun w => lenS _ 36 5 sp len cap rfl Tryd.underlying36 rfl w) (by kernel_rfl) (by kernel_rfl) (by kernel_rfl) (fun _ _ _ h => h) K ?_
    simp only [Act.put, List.setIfInBounds_toArray, List.set_cons_zero, List.set_cons_succ]
    refine pureH (i := 20) (some 60) rfl (.bool true) rfl rfl (fun w => eqlI .i64 _ _ _ _ _ _ rfl rfl rfl true (by simp) w) (by kernel_rfl) (by kernel_rfl) (by kernel_rfl) (fun _ _ _ h => h) K ?_
    simp only [Act.put, List.setIfInBounds_toArray, List.set_cons_zero, List.set_cons_succ]
    refine pureH (i := 21) (some 61) rfl (.bool true) rfl rfl (fun _ => by kernel_rfl) (by kernel_rfl) (by kernel_rfl) (by kernel_rfl) (fun _ _ _ h => h) K ?_
    simp only [Act.put, List.setIfInBounds_toArray, List.set_cons_zero, List.set_cons_succ]
    refine pureH (i := 22) (some 62) rfl (.bool true) rfl rfl (fun _ => by kernel_rfl) (by kernel_rfl) (by kernel_rfl) (by kernel_rfl) (fun _ _ _ h => h) K ?_
    simp only [Act.put, List.setIfInBounds_toArray, List.set_cons_zero, List.set_cons_succ]
    refine pureH (i := 23) (some 63) rfl (.slice (some ⟨B, 0, none⟩) len len) rfl rfl (fun _ => by kernel_rfl) (by kernel_rfl) (by kernel_rfl) (by kernel_rfl) (fun _ _ _ h => h) K ?_
    simp only [Act.put, List.setIfInBounds_toArray, List.set_cons_zero, List.set_cons_succ]
    refine pureH (i := 24) (some 64) rfl (.int .i64 (N : Int)) rfl rfl (fun _ => by kernel_rfl) (by kernel_rfl) (by kernel_rfl) (by kernel_rfl) (fun _ _ _ h => h) K ?_
    simp only [Act.put, List.setIfInBounds_toArray, List.set_cons_zero, List.set_cons_succ]
    refine pureH (i := 25) (some 65) rfl (.slice sx N len) rfl rfl (fun w => cutHi _ _ _ _ _ _ rfl rfl rfl (hx1 w)) (by kernel_rfl) (by kernel_rfl) (by kernel_rfl) (fun _ _ _ h => h) K ?_
    simp only [Act.put, List.setIfInBounds_toArray, List.set_cons_zero, List.set_cons_succ]
    refine readH (i := 26) (some 66) rfl (.string (txt N (hxor k c n z))) rfl rfl (fun w h => conv_txt 36 5 9 _ rfl Tryd.underlying36 Tryd.underlying5 Tryd.underlying9 (sx) (N) (len) (hxor k c n z) rfl w (h.get _ _ _ (List.mem_cons_of_mem _ List.mem_cons_self)) (Src.none (h.get _ _ _ (List.mem_cons_of_mem _ List.mem_cons_self)))) (by kernel_rfl) (by kernel_rfl) (by kernel_rfl) (fun _ _ _ h => h) K ?_
    simp only [Act.put, List.setIfInBounds_toArray, List.set_cons_zero, List.set_cons_succ]
    refine pureH (i := 27) (some 67) rfl (.slice (some ⟨G, 0, none⟩) N N) rfl rfl (fun _ => by kernel_rfl) (by kernel_rfl) (by kernel_rfl) (by kernel_rfl) (fun _ _ _ h => h) K ?_
    simp only [Act.put, List.setIfInBounds_toArray, List.set_cons_zero, List.set_cons_succ]
    refine readH (i := 28) (some 68) rfl (.string (txt N (hxor k c n z))) rfl rfl (fun w h => conv_txt 36 5 9 _ rfl Tryd.underlying36 Tryd.underlying5 Tryd.underlying9 (some ⟨G, 0, none⟩) (N) (N) (hxor k c n z) rfl w (h.get _ _ _ List.mem_cons_self) (Src.none (h.get _ _ _ List.mem_cons_self))) (by kernel_rfl) (by kernel_rfl) (by kernel_rfl) (fun _ _ _ h => h) K ?_
    simp only [Act.put, List.setIfInBounds_toArray, List.set_cons_zero, List.set_cons_succ]
    refine pureH (i := 29) (some 69) rfl (.bool true) rfl rfl (fun w => eqlS _ _ _ _ _ _ rfl rfl rfl rfl w) (by kernel_rfl) (by kernel_rfl) (by kernel_rfl) (fun _ _ _ h => h) K ?_
    simp only [Act.put, List.setIfInBounds_toArray, List.set_cons_zero, List.set_cons_succ]
    refine pureH (i := 30) (some 70) rfl (.bool true) rfl rfl (fun _ => by kernel_rfl) (by kernel_rfl) (by kernel_rfl) (by kernel_rfl) (fun _ _ _ h => h) K ?_
    simp only [Act.put, List.setIfInBounds_toArray, List.set_cons_zero, List.set_cons_succ]
    refine pureH (i := 31) (some 6) rfl (.bool true) rfl rfl (fun _ => by kernel_rfl) (by kernel_rfl) (by kernel_rfl) (by kernel_rfl) (fun _ _ _ h => h) K ?_
    simp only [Act.put, List.setIfInBounds_toArray, List.set_cons_zero, List.set_cons_succ]
    refine wpAnyH_done (by kernel_rfl) ?_ _
    have hB := K.below
    clear K
    go_wp2
    go_ret
    exact ⟨rfl, hB⟩
end Go.Proofs.YtldebgblkaaojaaDoor
