/- The walk of AeadBeside. -/
import Derived.Test.YteclkiabkdaklaaDoorG6
namespace Go.Proofs.YteclkiabkdaklaaDoor
open Go.RowKit

set_option maxRecDepth 10000 in
set_option maxHeartbeats 8000000 in
theorem law_AeadBeside (hS : ASealOK) (hO : AOpenOK) (k n : Nat → Int) (hk : In 256 32 k) (hn : In 256 12 n) (bp : Option Addr) (bl bc : Nat) (hbl : bl ≤ 140737488351232) (hbc : bl ≤ bc) (hbn : bp = none → bc = 0) (b : Nat → Int) (hb : In 256 bl b) (op : Option Addr) (ol oc : Nat) (hol : ol ≤ 140737488351232) (hoc : ol ≤ oc) (hon : op = none → oc = 0) (o : Nat → Int) (ho : In 256 ol o) (sp : Option Addr) (len cap : Nat) (hlen : len ≤ 140737488351232) (hcap : len ≤ cap) (hsn : sp = none → cap = 0) (z : Nat → Int) (hz : In 256 len z) (w : World) (hg : AGlob w) (hsb : Src w bp bl b) (hso : Src w op ol o) (hs : Src w sp len z) :
    Calls Tryd.prog 7 #[(.agg (boxm k n bp bl bc).toArray), .slice op ol oc, .slice sp len cap] w fun e w' => e = .returned (.bool true) ∧ Below w.heap.size w w' := by
  have hb0 := (Below.refl w.heap.size w).alloc (Nat.le_refl _) (.cells (boxm k n bp bl bc).toArray 28)
  have K : AL w w.heap.size k n bp bl bc [] (w.alloc (.cells (boxm k n bp bl bc).toArray 28)) := ⟨Bx.new w k n bp bl bc _, fun p hp => (by cases hp), hb0⟩
  replace K := K.add (sp) (len) z (hs.below hb0 (Nat.le_refl _))
  replace K := K.add (op) (ol) o (hso.below hb0 (Nat.le_refl _))
  replace K := K.add (bp) (bl) b (hsb.below hb0 (Nat.le_refl _))
  clear hb0
  go_enter Tryd.func7, Tryd.ntmps7
  go_upto_region 1 with fail
  generalize (w.alloc (.cells (boxm k n bp bl bc).toArray 28)) = w0 at K ⊢
  refine wp_region_list ?_
  refine callL rfl (fun _ => by kernel_rfl) (ashown_any hS hO _ (hg.below K.below hg.size)) ?_
  rintro e w1 ⟨rfl, l⟩
  replace K := K.call l
  clear l
  refine ⟨_, rfl, ?_⟩
  simp only [Act.put, List.setIfInBounds_toArray, List.set_cons_zero, List.set_cons_succ]
  refine pureL (.bool true) rfl (fun _ => by kernel_rfl) ?_
  simp only [Act.put, List.setIfInBounds_toArray, List.set_cons_zero, List.set_cons_succ]
  show Exit.then _ _ _ _ _
  go_upto_region 2 with fail
  refine wp_region_list ?_
  refine pureL (.pointer (some ⟨w.heap.size, 0, none⟩)) rfl (fun _ => by kernel_rfl) ?_
  simp only [Act.put, List.setIfInBounds_toArray, List.set_cons_zero, List.set_cons_succ]
  refine rowKL .u8 32 (k) (w.heap.size) 0 23 _ _ rfl rfl rfl Tryd.underlying23 rfl (key_info _) (K.st.key) ?_
  simp only [Act.put, List.setIfInBounds_toArray, List.set_cons_zero, List.set_cons_succ]
  refine pureL (.pointer (some ⟨w.heap.size, 32, none⟩)) rfl (fun _ => by kernel_rfl) ?_
  simp only [Act.put, List.setIfInBounds_toArray, List.set_cons_zero, List.set_cons_succ]
  refine rowKL .u8 12 (n) (w.heap.size) 32 25 _ _ rfl rfl rfl Tryd.underlying25 rfl (hn_info _) (K.st.non) ?_
  simp only [Act.put, List.setIfInBounds_toArray, List.set_cons_zero, List.set_cons_succ]
  refine pureL (.pointer (some ⟨w.heap.size, 44, none⟩)) rfl (fun _ => by kernel_rfl) ?_
  simp only [Act.put, List.setIfInBounds_toArray, List.set_cons_zero, List.set_cons_succ]
  refine readL (.slice bp bl bc) rfl (loadCell 26 5 _ ⟨w.heap.size, 44, none⟩ _ rfl rfl Tryd.underlying26 K.st.bes) ?_
  simp only [Act.put, List.setIfInBounds_toArray, List.set_cons_zero, List.set_cons_succ]
  refine pureL (.slice sp len cap) rfl (fun _ => by kernel_rfl) ?_
  simp only [Act.put, List.setIfInBounds_toArray, List.set_cons_zero, List.set_cons_succ]
  refine callL rfl (fun _ => by kernel_rfl) (hS k n hk hn (bp) (bl) (bc) (by omega) hbc hbn b hb (sp) (len) (cap) (by omega) hcap hsn z hz _ (hg.below K.below hg.size) (K.get _ _ _ List.mem_cons_self) (K.get _ _ _ (List.mem_cons_of_mem _ (List.mem_cons_of_mem _ List.mem_cons_self)))) ?_
  rintro e w2 ⟨B, cB, rfl, ⟨hB, _, _, HB⟩, l⟩
  replace K := (K.call l).add (some ⟨B, 0, none⟩) (len + 16) (aout k n bl b len z) HB.src0
  clear l HB
  refine ⟨_, rfl, ?_⟩
  simp only [Act.put, List.setIfInBounds_toArray, List.set_cons_zero, List.set_cons_succ]
  refine pureL (.slice (some ⟨B, 0, none⟩) (len + 16) cB) rfl (fun _ => by kernel_rfl) ?_
  simp only [Act.put, List.setIfInBounds_toArray, List.set_cons_zero, List.set_cons_succ]
  show Exit.then _ _ _ _ _
  go_upto_region 3 with fail
  refine wp_region_list ?_
  refine pureL (.pointer (some ⟨w.heap.size, 0, none⟩)) rfl (fun _ => by kernel_rfl) ?_
  simp only [Act.put, List.setIfInBounds_toArray, List.set_cons_zero, List.set_cons_succ]
  refine rowKL .u8 32 (k) (w.heap.size) 0 23 _ _ rfl rfl rfl Tryd.underlying23 rfl (key_info _) (K.st.key) ?_
  simp only [Act.put, List.setIfInBounds_toArray, List.set_cons_zero, List.set_cons_succ]
  refine pureL (.pointer (some ⟨w.heap.size, 32, none⟩)) rfl (fun _ => by kernel_rfl) ?_
  simp only [Act.put, List.setIfInBounds_toArray, List.set_cons_zero, List.set_cons_succ]
  refine rowKL .u8 12 (n) (w.heap.size) 32 25 _ _ rfl rfl rfl Tryd.underlying25 rfl (hn_info _) (K.st.non) ?_
  simp only [Act.put, List.setIfInBounds_toArray, List.set_cons_zero, List.set_cons_succ]
  refine pureL (.slice op ol oc) rfl (fun _ => by kernel_rfl) ?_
  simp only [Act.put, List.setIfInBounds_toArray, List.set_cons_zero, List.set_cons_succ]
  refine pureL (.slice sp len cap) rfl (fun _ => by kernel_rfl) ?_
  simp only [Act.put, List.setIfInBounds_toArray, List.set_cons_zero, List.set_cons_succ]
  refine callL rfl (fun _ => by kernel_rfl) (hS k n hk hn (op) (ol) (oc) (by omega) hoc hon o ho (sp) (len) (cap) (by omega) hcap hsn z hz _ (hg.below K.below hg.size) (K.get _ _ _ (List.mem_cons_of_mem _ (List.mem_cons_of_mem _ List.mem_cons_self))) (K.get _ _ _ (List.mem_cons_of_mem _ (List.mem_cons_of_mem _ (List.mem_cons_of_mem _ List.mem_cons_self))))) ?_
  rintro e w3 ⟨D, cD, rfl, ⟨hD, _, _, HD⟩, l⟩
  replace K := (K.call l).add (some ⟨D, 0, none⟩) (len + 16) (aout k n ol o len z) HD.src0
  clear l HD
  refine ⟨_, rfl, ?_⟩
  simp only [Act.put, List.setIfInBounds_toArray, List.set_cons_zero, List.set_cons_succ]
  refine pureL (.slice (some ⟨D, 0, none⟩) (len + 16) cD) rfl (fun _ => by kernel_rfl) ?_
  simp only [Act.put, List.setIfInBounds_toArray, List.set_cons_zero, List.set_cons_succ]
  show Exit.then _ _ _ _ _
  go_upto_region 4 with fail
  refine wp_region_list ?_
  refine pureL (.slice sp len cap) rfl (fun _ => by kernel_rfl) ?_
  simp only [Act.put, List.setIfInBounds_toArray, List.set_cons_zero, List.set_cons_succ]
  refine pureL (.int .i64 ((len : Nat) : Int)) rfl (fun w => lenS _ 26 5 (sp) (len) (cap) rfl Tryd.underlying26 rfl w) ?_
  simp only [Act.put, List.setIfInBounds_toArray, List.set_cons_zero, List.set_cons_succ]
  refine pureL (.int .i64 (len : Int)) rfl (fun _ => by kernel_rfl) ?_
  simp only [Act.put, List.setIfInBounds_toArray, List.set_cons_zero, List.set_cons_succ]
  show Exit.then _ _ _ _ _
  go_upto_region 5 with fail
  refine wp_region_list ?_
  refine pureL (.slice (some ⟨B, 0, none⟩) (len + 16) cB) rfl (fun _ => by kernel_rfl) ?_
  simp only [Act.put, List.setIfInBounds_toArray, List.set_cons_zero, List.set_cons_succ]
  refine pureL (.int .i64 ((len + 16 : Nat) : Int)) rfl (fun w => lenS _ 26 5 (some ⟨B, 0, none⟩) (len + 16) (cB) rfl Tryd.underlying26 rfl w) ?_
  simp only [Act.put, List.setIfInBounds_toArray, List.set_cons_zero, List.set_cons_succ]
  refine pureL (.int .i64 (len : Int)) rfl (fun _ => by kernel_rfl) ?_
  simp only [Act.put, List.setIfInBounds_toArray, List.set_cons_zero, List.set_cons_succ]
  refine pureL (.int .i64 ((len + 16 : Nat) : Int)) rfl (fun w => addI .i64 _ _ _ _ _ _ _ rfl rfl rfl (by rw [IntKind.wrap_i64]; omega) w) ?_
  simp only [Act.put, List.setIfInBounds_toArray, List.set_cons_zero, List.set_cons_succ]
  refine pureL (.bool false) rfl (fun w => neqI .i64 _ _ _ _ _ _ rfl rfl rfl false (by simp) w) ?_
  simp only [Act.put, List.setIfInBounds_toArray, List.set_cons_zero, List.set_cons_succ]
  refine pureL (.bool false) rfl (fun _ => by kernel_rfl) ?_
  simp only [Act.put, List.setIfInBounds_toArray, List.set_cons_zero, List.set_cons_succ]
  refine pureL (.slice (some ⟨D, 0, none⟩) (len + 16) cD) rfl (fun _ => by kernel_rfl) ?_
  simp only [Act.put, List.setIfInBounds_toArray, List.set_cons_zero, List.set_cons_succ]
  refine pureL (.int .i64 ((len + 16 : Nat) : Int)) rfl (fun w => lenS _ 26 5 (some ⟨D, 0, none⟩) (len + 16) (cD) rfl Tryd.underlying26 rfl w) ?_
  simp only [Act.put, List.setIfInBounds_toArray, List.set_cons_zero, List.set_cons_succ]
  refine pureL (.int .i64 (len : Int)) rfl (fun _ => by kernel_rfl) ?_
  simp only [Act.put, List.setIfInBounds_toArray, List.set_cons_zero, List.set_cons_succ]
  refine pureL (.int .i64 ((len + 16 : Nat) : Int)) rfl (fun w => addI .i64 _ _ _ _ _ _ _ rfl rfl rfl (by rw [IntKind.wrap_i64]; omega) w) ?_
  simp only [Act.put, List.setIfInBounds_toArray, List.set_cons_zero, List.set_cons_succ]
  refine pureL (.bool false) rfl (fun w => neqI .i64 _ _ _ _ _ _ rfl rfl rfl false (by simp) w) ?_
  simp only [Act.put, List.setIfInBounds_toArray, List.set_cons_zero, List.set_cons_succ]
  refine pureL (.bool false) rfl (fun _ => by kernel_rfl) ?_
  simp only [Act.put, List.setIfInBounds_toArray, List.set_cons_zero, List.set_cons_succ]
  show Exit.then _ _ _ _ _
  obtain ⟨u1, hu1, hu2⟩ := cut_hi (P := Tryd.prog) (t := 26) (by kernel_rfl) (fun _ => by kernel_rfl) (some ⟨B, 0, none⟩) (len + 16) cB len (by omega) hB
  obtain ⟨u2, hv1, hv2⟩ := cut_hi (P := Tryd.prog) (t := 26) (by kernel_rfl) (fun _ => by kernel_rfl) (some ⟨D, 0, none⟩) (len + 16) cD len (by omega) hD
  replace K := K.add u1 len (aout k n bl b len z) (hu2 _ _ (K.get _ _ _ (List.mem_cons_of_mem _ List.mem_cons_self)))
  replace K := K.add u2 len (aout k n ol o len z) (hv2 _ _ (K.get _ _ _ (List.mem_cons_of_mem _ List.mem_cons_self)))
  go_upto_region 7 with fail
  refine wp_region_held_drew (S := fun w' => AL w w.heap.size k n bp bl bc [(u2, len, (aout k n ol o len z)), (u1, len, (aout k n bl b len z)), (some ⟨D, 0, none⟩, len + 16, (aout k n ol o len z)), (some ⟨B, 0, none⟩, len + 16, (aout k n bl b len z)), (bp, bl, b), (op, ol, o), (sp, len, z)] w') (by kernel_rfl) K.drew ?_
  clear K
  intro K
  refine pureH (i := 0) (some 41) rfl (.bool true) rfl rfl (fun _ => by kernel_rfl) (by kernel_rfl) (by kernel_rfl) (by kernel_rfl) (fun _ _ _ h => h) K ?_
  simp only [Act.put, List.setIfInBounds_toArray, List.set_cons_zero, List.set_cons_succ]
  refine pureH (i := 1) (some 42) rfl (.bool true) rfl rfl (fun _ => by kernel_rfl) (by kernel_rfl) (by kernel_rfl) (by kernel_rfl) (fun _ _ _ h => h) K ?_
  simp only [Act.put, List.setIfInBounds_toArray, List.set_cons_zero, List.set_cons_succ]
  refine pureH (i := 2) (some 43) rfl (.slice (some ⟨B, 0, none⟩) (len + 16) cB) rfl rfl (fun _ => by kernel_rfl) (by kernel_rfl) (by kernel_rfl) (by kernel_rfl) (fun _ _ _ h => h) K ?_
  simp only [Act.put, List.setIfInBounds_toArray, List.set_cons_zero, List.set_cons_succ]
  refine pureH (i := 3) (some 44) rfl (.int .i64 (len : Int)) rfl rfl (fun _ => by kernel_rfl) (by kernel_rfl) (by kernel_rfl) (by kernel_rfl) (fun _ _ _ h => h) K ?_
  simp only [Act.put, List.setIfInBounds_toArray, List.set_cons_zero, List.set_cons_succ]
  refine pureH (i := 4) (some 45) rfl (.slice u1 len cB) rfl rfl (fun w' => cutHi _ _ _ _ _ _ rfl rfl rfl (hu1 w')) (by kernel_rfl) (by kernel_rfl) (by kernel_rfl) (fun _ _ _ h => h) K ?_
  simp only [Act.put, List.setIfInBounds_toArray, List.set_cons_zero, List.set_cons_succ]
  refine readH (i := 5) (some 46) rfl (.string (txt (len) (aout k n bl b len z))) rfl rfl (fun w h => conv_txt 26 5 9 _ rfl Tryd.underlying26 Tryd.underlying5 Tryd.underlying9 (u1) (len) (cB) (aout k n bl b len z) rfl w (h.get _ _ _ (List.mem_cons_of_mem _ List.mem_cons_self)) (Src.none (h.get _ _ _ (List.mem_cons_of_mem _ List.mem_cons_self)))) (by kernel_rfl) (by kernel_rfl) (by kernel_rfl) (fun _ _ _ h => h) K ?_
  simp only [Act.put, List.setIfInBounds_toArray, List.set_cons_zero, List.set_cons_succ]
  refine pureH (i := 6) (some 47) rfl (.slice (some ⟨D, 0, none⟩) (len + 16) cD) rfl rfl (fun _ => by kernel_rfl) (by kernel_rfl) (by kernel_rfl) (by kernel_rfl) (fun _ _ _ h => h) K ?_
  simp only [Act.put, List.setIfInBounds_toArray, List.set_cons_zero, List.set_cons_succ]
  refine pureH (i := 7) (some 48) rfl (.int .i64 (len : Int)) rfl rfl (fun _ => by kernel_rfl) (by kernel_rfl) (by kernel_rfl) (by kernel_rfl) (fun _ _ _ h => h) K ?_
  simp only [Act.put, List.setIfInBounds_toArray, List.set_cons_zero, List.set_cons_succ]
  refine pureH (i := 8) (some 49) rfl (.slice u2 len cD) rfl rfl (fun w' => cutHi _ _ _ _ _ _ rfl rfl rfl (hv1 w')) (by kernel_rfl) (by kernel_rfl) (by kernel_rfl) (fun _ _ _ h => h) K ?_
  simp only [Act.put, List.setIfInBounds_toArray, List.set_cons_zero, List.set_cons_succ]
  refine readH (i := 9) (some 50) rfl (.string (txt (len) (aout k n ol o len z))) rfl rfl (fun w h => conv_txt 26 5 9 _ rfl Tryd.underlying26 Tryd.underlying5 Tryd.underlying9 (u2) (len) (cD) (aout k n ol o len z) rfl w (h.get _ _ _ List.mem_cons_self) (Src.none (h.get _ _ _ List.mem_cons_self))) (by kernel_rfl) (by kernel_rfl) (by kernel_rfl) (fun _ _ _ h => h) K ?_
  simp only [Act.put, List.setIfInBounds_toArray, List.set_cons_zero, List.set_cons_succ]
  refine pureH (i := 10) (some 51) rfl (.bool true) rfl rfl (fun w => eqlS _ _ _ _ _ _ rfl rfl rfl (txt_congr (fun j hj => by rw [aout_lo k n bl b len z j hj, aout_lo k n ol o len z j hj])) w) (by kernel_rfl) (by kernel_rfl) (by kernel_rfl) (fun _ _ _ h => h) K ?_
  simp only [Act.put, List.setIfInBounds_toArray, List.set_cons_zero, List.set_cons_succ]
  refine pureH (i := 11) (some 52) rfl (.bool true) rfl rfl (fun _ => by kernel_rfl) (by kernel_rfl) (by kernel_rfl) (by kernel_rfl) (fun _ _ _ h => h) K ?_
  simp only [Act.put, List.setIfInBounds_toArray, List.set_cons_zero, List.set_cons_succ]
  refine pureH (i := 12) (some 53) rfl (.bool true) rfl rfl (fun _ => by kernel_rfl) (by kernel_rfl) (by kernel_rfl) (by kernel_rfl) (fun _ _ _ h => h) K ?_
  simp only [Act.put, List.setIfInBounds_toArray, List.set_cons_zero, List.set_cons_succ]
  refine pureH (i := 13) (some 54) rfl (.slice (some ⟨B, 0, none⟩) (len + 16) cB) rfl rfl (fun _ => by kernel_rfl) (by kernel_rfl) (by kernel_rfl) (by kernel_rfl) (fun _ _ _ h => h) K ?_
  simp only [Act.put, List.setIfInBounds_toArray, List.set_cons_zero, List.set_cons_succ]
  refine pureH (i := 14) (some 55) rfl (.int .i64 (len : Int)) rfl rfl (fun _ => by kernel_rfl) (by kernel_rfl) (by kernel_rfl) (by kernel_rfl) (fun _ _ _ h => h) K ?_
  simp only [Act.put, List.setIfInBounds_toArray, List.set_cons_zero, List.set_cons_succ]
  refine pureH (i := 15) (some 56) rfl (.slice u1 len cB) rfl rfl (fun w' => cutHi _ _ _ _ _ _ rfl rfl rfl (hu1 w')) (by kernel_rfl) (by kernel_rfl) (by kernel_rfl) (fun _ _ _ h => h) K ?_
  simp only [Act.put, List.setIfInBounds_toArray, List.set_cons_zero, List.set_cons_succ]
  refine readH (i := 16) (some 57) rfl (.string (txt (len) (aout k n bl b len z))) rfl rfl (fun w h => conv_txt 26 5 9 _ rfl Tryd.underlying26 Tryd.underlying5 Tryd.underlying9 (u1) (len) (cB) (aout k n bl b len z) rfl w (h.get _ _ _ (List.mem_cons_of_mem _ List.mem_cons_self)) (Src.none (h.get _ _ _ (List.mem_cons_of_mem _ List.mem_cons_self)))) (by kernel_rfl) (by kernel_rfl) (by kernel_rfl) (fun _ _ _ h => h) K ?_
  simp only [Act.put, List.setIfInBounds_toArray, List.set_cons_zero, List.set_cons_succ]
  refine pureH (i := 17) (some 58) rfl (.pointer (some ⟨w.heap.size, 0, none⟩)) rfl rfl (fun _ => by kernel_rfl) (by kernel_rfl) (by kernel_rfl) (by kernel_rfl) (fun _ _ _ h => h) K ?_
  simp only [Act.put, List.setIfInBounds_toArray, List.set_cons_zero, List.set_cons_succ]
  refine rowKH (i := 18) (some 59) rfl .u8 32 (k) (w.heap.size) 0 23 _ _ rfl rfl rfl rfl (by kernel_rfl) (by kernel_rfl) (by kernel_rfl) (fun _ _ _ h => h) Tryd.underlying23 rfl (key_info _) K (fun _ h => h.st.key) ?_
  simp only [Act.put, List.setIfInBounds_toArray, List.set_cons_zero, List.set_cons_succ]
  refine pureH (i := 19) (some 60) rfl (.pointer (some ⟨w.heap.size, 32, none⟩)) rfl rfl (fun _ => by kernel_rfl) (by kernel_rfl) (by kernel_rfl) (by kernel_rfl) (fun _ _ _ h => h) K ?_
  simp only [Act.put, List.setIfInBounds_toArray, List.set_cons_zero, List.set_cons_succ]
  refine rowKH (i := 20) (some 61) rfl .u8 12 (n) (w.heap.size) 32 25 _ _ rfl rfl rfl rfl (by kernel_rfl) (by kernel_rfl) (by kernel_rfl) (fun _ _ _ h => h) Tryd.underlying25 rfl (hn_info _) K (fun _ h => h.st.non) ?_
  simp only [Act.put, List.setIfInBounds_toArray, List.set_cons_zero, List.set_cons_succ]
  refine pureH (i := 21) (some 62) rfl (.slice sp len cap) rfl rfl (fun _ => by kernel_rfl) (by kernel_rfl) (by kernel_rfl) (by kernel_rfl) (fun _ _ _ h => h) K ?_
  simp only [Act.put, List.setIfInBounds_toArray, List.set_cons_zero, List.set_cons_succ]
  refine callH (i := 22) (some 63) rfl (by kernel_rfl) rfl rfl (fun _ => by kernel_rfl) (refXor_any k 1 n hk hn sp len cap (by omega) z _ (K.get _ _ _ (List.mem_cons_of_mem _ (List.mem_cons_of_mem _ (List.mem_cons_of_mem _ (List.mem_cons_of_mem _ (List.mem_cons_of_mem _ (List.mem_cons_of_mem _ List.mem_cons_self)))))))) ?_
  rintro e w9 ⟨s5, c5, rfl, ⟨_, h5⟩, l⟩
  replace K := K.call l
  clear l
  refine ⟨_, rfl, K, ?_⟩
  simp only [Act.put, List.setIfInBounds_toArray, List.set_cons_zero, List.set_cons_succ]
  refine actH (i := 23) (some 64) rfl (.string (txt (len) (hxor k 1 n z))) (by kernel_rfl) rfl rfl (conv_txt 26 5 9 _ rfl Tryd.underlying26 Tryd.underlying5 Tryd.underlying9 (s5) (len) (c5) (hxor k 1 n z) rfl _ h5 (Src.none h5)) K ?_
  simp only [Act.put, List.setIfInBounds_toArray, List.set_cons_zero, List.set_cons_succ]
  refine pureH (i := 24) (some 65) rfl (.bool true) rfl rfl (fun w => eqlS _ _ _ _ _ _ rfl rfl rfl (txt_congr (fun j hj => aout_lo k n bl b len z j hj)) w) (by kernel_rfl) (by kernel_rfl) (by kernel_rfl) (fun _ _ _ h => h) K ?_
  simp only [Act.put, List.setIfInBounds_toArray, List.set_cons_zero, List.set_cons_succ]
  refine pureH (i := 25) (some 66) rfl (.bool true) rfl rfl (fun _ => by kernel_rfl) (by kernel_rfl) (by kernel_rfl) (by kernel_rfl) (fun _ _ _ h => h) K ?_
  simp only [Act.put, List.setIfInBounds_toArray, List.set_cons_zero, List.set_cons_succ]
  refine pureH (i := 26) (some 6) rfl (.bool true) rfl rfl (fun _ => by kernel_rfl) (by kernel_rfl) (by kernel_rfl) (by kernel_rfl) (fun _ _ _ h => h) K ?_
  simp only [Act.put, List.setIfInBounds_toArray, List.set_cons_zero, List.set_cons_succ]
  refine wpAnyH_done (by kernel_rfl) ?_ _
  have hBe := K.below
  clear K
  go_wp2
  go_ret
  exact ⟨rfl, hBe⟩
end Go.Proofs.YteclkiabkdaklaaDoor
