/- What a double round makes of sixteen words. -/
import Derived.Test.YtldebgblkaaojaaDoorHc
import Derived.Test.YtldebgblkaaojaaDoorHold
namespace Go.Proofs.YtldebgblkaaojaaDoor
open Go.RowKit

theorem HGlob.four {w : World} (h : HGlob w) (k : Nat) (hk : k < 8) : w.cell? ⟨1, k * 4, none⟩ = some (.int .i64 (pA k)) ∧ w.cell? ⟨1, k * 4 + 1, none⟩ = some (.int .i64 (pB k)) ∧ w.cell? ⟨1, k * 4 + 2, none⟩ = some (.int .i64 (pC k)) ∧ w.cell? ⟨1, k * 4 + 3, none⟩ = some (.int .i64 (pD k)) := by
  have e1 : plc (k * 4) = (pA k : Int) := by unfold plc; rw [if_pos (by omega), show k * 4 / 4 = k by omega]
  have e2 : plc (k * 4 + 1) = (pB k : Int) := by unfold plc; rw [if_neg (by omega), if_pos (by omega), show (k * 4 + 1) / 4 = k by omega]
  have e3 : plc (k * 4 + 2) = (pC k : Int) := by unfold plc; rw [if_neg (by omega), if_neg (by omega), if_pos (by omega), show (k * 4 + 2) / 4 = k by omega]
  have e4 : plc (k * 4 + 3) = (pD k : Int) := by unfold plc; rw [if_neg (by omega), if_neg (by omega), if_neg (by omega), show (k * 4 + 3) / 4 = k by omega]
  rw [← e1, ← e2, ← e3, ← e4]
  exact ⟨h.place _ (by omega), h.place _ (by omega), h.place _ (by omega), h.place _ (by omega)⟩

/-- A place among sixteen words. -/
theorem idx16 (b i : Nat) (hi : i < 16) (w : World) {o : Oper} {a : Act} (x y : Operand) (ho : o.op = .indexAddr 47 x y) (hx : a.eval x = .pointer (some ⟨b, 0, none⟩)) (hy : a.eval y = .int .i64 (i : Int)) :
    (execOp a.eval o).run Tryd.prog w = .ok (.value (.pointer (some ⟨b, i, none⟩))) w := by
  have h := idxArr (P := Tryd.prog) 47 22 16 .i64 b 0 i x y Tryd.underlying47 (fun _ => by kernel_rfl) hi ho hx hy w
  rw [Nat.zero_add] at h
  exact h

/-- Behind k of its eight turns. -/
structure HDI (s : Nat → Int) (w : World) (k : Nat) (w' : World) : Prop where
  hs : Has w' w.heap.size .u32 16 (tN s k)
  hr : Has w' (w.heap.size + 1) .u32 16 (fun _ => 0)
  fr : Fr w 2 w'
theorem HDI.drewN {s : Nat → Int} {w : World} {k q : Nat} {w' : World} (h : HDI s w k w') : HDI s w k (w'.drewN q) := ⟨⟨h.hs.cell, h.hs.free⟩, ⟨h.hr.cell, h.hr.free⟩, ⟨below_drewN h.fr.below, h.fr.size⟩⟩
theorem HDI.drew {s : Nat → Int} {w : World} {k : Nat} {w' : World} (h : HDI s w k w') : HDI s w k w'.drew := ⟨h.hs.drew, h.hr.drew, h.fr.drew⟩

set_option maxRecDepth 10000 in
set_option maxHeartbeats 4000000 in
theorem hdouble_any (s : Nat → Int) (w : World) (hg : HGlob w) :
    Calls Tryd.prog 19 #[(.agg (row .u32 16 (s)).toArray)] w fun e w' => e = .returned (.agg (row .u32 16 (tN s 8)).toArray) ∧ Below w.heap.size w w' := by
  go_enter Tryd.func19, Tryd.ntmps19
  go_wp2
  go_loopw [8] (fun i w' => ∃ k : Nat, k ≤ 8 ∧ i = .int .i64 k ∧ HDI s w k w') (fun i _ => 8 - (intOf i).toNat)
  case atStart => exact ⟨0, by omega, rfl, ⟨(Has.new w _ _ _ _ _ rfl).alloc _ (by simp), hs_zero _ _ _ (by simp), ((Fr.refl w).alloc _).alloc _⟩⟩
  case round =>
    obtain ⟨k, hk, rfl, hI⟩ := hrel
    have hG := hg.fr hI.fr
    have g1 : (0 : Int) ≤ (k : Int) := by omega
    by_cases hlt : k < 8
    · have HT := show Hid _ from (show tN s (k + 1) = tAt (tN s k) k from rfl)
      have HI := show Hid _ from fun (q : Nat) => (hI.drewN (q := q)).drew
      have g2 : (k : Int) < 8 := by omega
      obtain ⟨p1, p2, p3, p4⟩ := hG.four k hlt
      have l1 : pA k < 16 := by have := pA_lt k; omega
      have l2 : pB k < 16 := by have := pB_lt k; omega
      have l3 : pC k < 16 := by have := pC_lt k; omega
      have l4 : pD k < 16 := pD_lt k
      unfold tAt at HT
      clear hI hG hk
      generalize hA : pA k = A at *
      generalize hB : pB k = B at *
      generalize hC : pC k = C at *
      generalize hD : pD k = D at *
      clear hA hB hC hD
      go_wp2
      go_quiet (fail)
      go_upto_region 5 with fail
      have hI := HI.out nq
      clear p1 p2 p3 p4 HI
      refine wp_region_C (S := fun w' => HDI s w k w') 16 (by kernel_rfl) hI ?_
      clear hI
      intro K
      refine pureC (i := 0) (some 28) rfl (.int .i64 (A : Int)) rfl (by decide) rfl (fun _ => by kernel_rfl) (by kernel_rfl) (by kernel_rfl) (by kernel_rfl) (fun _ _ _ h => h) K ?_
      simp only [Act.put, List.setIfInBounds_toArray, List.set_cons_zero, List.set_cons_succ]
      refine pureC (i := 1) (some 29) rfl (.int .i64 (B : Int)) rfl (by decide) rfl (fun _ => by kernel_rfl) (by kernel_rfl) (by kernel_rfl) (by kernel_rfl) (fun _ _ _ h => h) K ?_
      simp only [Act.put, List.setIfInBounds_toArray, List.set_cons_zero, List.set_cons_succ]
      refine pureC (i := 2) (some 30) rfl (.int .i64 (C : Int)) rfl (by decide) rfl (fun _ => by kernel_rfl) (by kernel_rfl) (by kernel_rfl) (by kernel_rfl) (fun _ _ _ h => h) K ?_
      simp only [Act.put, List.setIfInBounds_toArray, List.set_cons_zero, List.set_cons_succ]
      refine pureC (i := 3) (some 31) rfl (.int .i64 (D : Int)) rfl (by decide) rfl (fun _ => by kernel_rfl) (by kernel_rfl) (by kernel_rfl) (by kernel_rfl) (fun _ _ _ h => h) K ?_
      simp only [Act.put, List.setIfInBounds_toArray, List.set_cons_zero, List.set_cons_succ]
      refine pureC (i := 4) (some 32) rfl (.int .i64 (A : Int)) rfl (by decide) rfl (fun _ => by kernel_rfl) (by kernel_rfl) (by kernel_rfl) (by kernel_rfl) (fun _ _ _ h => h) K ?_
      simp only [Act.put, List.setIfInBounds_toArray, List.set_cons_zero, List.set_cons_succ]
      refine pureC (i := 5) (some 33) rfl (.pointer (some ⟨w.heap.size, A, none⟩)) rfl (by decide) rfl (fun w' => idx16 w.heap.size A l1 w' _ _ rfl rfl rfl) (by kernel_rfl) (by kernel_rfl) (by kernel_rfl) (fun _ _ _ h => h) K ?_
      simp only [Act.put, List.setIfInBounds_toArray, List.set_cons_zero, List.set_cons_succ]
      refine cellC (i := 6) (some 34) rfl .u32 (.int .u32 (tN s k A)) w.heap.size A 22 _ rfl rfl (by kernel_rfl) rfl rfl rfl (by kernel_rfl) (by kernel_rfl) (by kernel_rfl) (by kernel_rfl) (fun _ _ _ h => h) Tryd.underlying22 K (fun _ h => h.hs.cell A l1) ?_
      simp only [Act.put, List.setIfInBounds_toArray, List.set_cons_zero, List.set_cons_succ]
      refine pureC (i := 7) (some 35) rfl (.int .i64 (B : Int)) rfl (by decide) rfl (fun _ => by kernel_rfl) (by kernel_rfl) (by kernel_rfl) (by kernel_rfl) (fun _ _ _ h => h) K ?_
      simp only [Act.put, List.setIfInBounds_toArray, List.set_cons_zero, List.set_cons_succ]
      refine pureC (i := 8) (some 36) rfl (.pointer (some ⟨w.heap.size, B, none⟩)) rfl (by decide) rfl (fun w' => idx16 w.heap.size B l2 w' _ _ rfl rfl rfl) (by kernel_rfl) (by kernel_rfl) (by kernel_rfl) (fun _ _ _ h => h) K ?_
      simp only [Act.put, List.setIfInBounds_toArray, List.set_cons_zero, List.set_cons_succ]
      refine cellC (i := 9) (some 37) rfl .u32 (.int .u32 (tN s k B)) w.heap.size B 22 _ rfl rfl (by kernel_rfl) rfl rfl rfl (by kernel_rfl) (by kernel_rfl) (by kernel_rfl) (by kernel_rfl) (fun _ _ _ h => h) Tryd.underlying22 K (fun _ h => h.hs.cell B l2) ?_
      simp only [Act.put, List.setIfInBounds_toArray, List.set_cons_zero, List.set_cons_succ]
      refine pureC (i := 10) (some 38) rfl (.int .i64 (C : Int)) rfl (by decide) rfl (fun _ => by kernel_rfl) (by kernel_rfl) (by kernel_rfl) (by kernel_rfl) (fun _ _ _ h => h) K ?_
      simp only [Act.put, List.setIfInBounds_toArray, List.set_cons_zero, List.set_cons_succ]
      refine pureC (i := 11) (some 39) rfl (.pointer (some ⟨w.heap.size, C, none⟩)) rfl (by decide) rfl (fun w' => idx16 w.heap.size C l3 w' _ _ rfl rfl rfl) (by kernel_rfl) (by kernel_rfl) (by kernel_rfl) (fun _ _ _ h => h) K ?_
      simp only [Act.put, List.setIfInBounds_toArray, List.set_cons_zero, List.set_cons_succ]
      refine cellC (i := 12) (some 40) rfl .u32 (.int .u32 (tN s k C)) w.heap.size C 22 _ rfl rfl (by kernel_rfl) rfl rfl rfl (by kernel_rfl) (by kernel_rfl) (by kernel_rfl) (by kernel_rfl) (fun _ _ _ h => h) Tryd.underlying22 K (fun _ h => h.hs.cell C l3) ?_
      simp only [Act.put, List.setIfInBounds_toArray, List.set_cons_zero, List.set_cons_succ]
      refine pureC (i := 13) (some 41) rfl (.int .i64 (D : Int)) rfl (by decide) rfl (fun _ => by kernel_rfl) (by kernel_rfl) (by kernel_rfl) (by kernel_rfl) (fun _ _ _ h => h) K ?_
      simp only [Act.put, List.setIfInBounds_toArray, List.set_cons_zero, List.set_cons_succ]
      refine pureC (i := 14) (some 42) rfl (.pointer (some ⟨w.heap.size, D, none⟩)) rfl (by decide) rfl (fun w' => idx16 w.heap.size D l4 w' _ _ rfl rfl rfl) (by kernel_rfl) (by kernel_rfl) (by kernel_rfl) (fun _ _ _ h => h) K ?_
      simp only [Act.put, List.setIfInBounds_toArray, List.set_cons_zero, List.set_cons_succ]
      refine cellC (i := 15) (some 43) rfl .u32 (.int .u32 (tN s k D)) w.heap.size D 22 _ rfl rfl (by kernel_rfl) rfl rfl rfl (by kernel_rfl) (by kernel_rfl) (by kernel_rfl) (by kernel_rfl) (fun _ _ _ h => h) Tryd.underlying22 K (fun _ h => h.hs.cell D l4) ?_
      simp only [Act.put, List.setIfInBounds_toArray, List.set_cons_zero, List.set_cons_succ]
      refine callC (S2 := fun _ => True) (some 44) rfl (by kernel_rfl) rfl rfl (fun _ => by kernel_rfl) (turn_any (tN s k A) (tN s k B) (tN s k C) (tN s k D) _) (by kernel_rfl) ?_
      rintro e w' ⟨rfl, rfl⟩
      refine ⟨_, rfl, ?_⟩
      simp only [Act.put, List.setIfInBounds_toArray, List.set_cons_zero, List.set_cons_succ]
      have T : True := trivial
      refine pureH (i := 17) (some 27) rfl (.tuple #[.int .u32 (qA (tN s k A) (tN s k B) (tN s k C) (tN s k D)), .int .u32 (qB (tN s k A) (tN s k B) (tN s k C) (tN s k D)), .int .u32 (qC (tN s k A) (tN s k B) (tN s k C) (tN s k D)), .int .u32 (qD (tN s k A) (tN s k B) (tN s k C) (tN s k D))]) rfl rfl (fun _ => by kernel_rfl) (by kernel_rfl) (by kernel_rfl) (by kernel_rfl) (fun _ _ _ h => h) T ?_
      simp only [Act.put, List.setIfInBounds_toArray, List.set_cons_zero, List.set_cons_succ]
      refine pureH (i := 18) (some 45) rfl (.int .u32 (qA (tN s k A) (tN s k B) (tN s k C) (tN s k D))) rfl rfl (fun _ => by kernel_rfl) (by kernel_rfl) (by kernel_rfl) (by kernel_rfl) (fun _ _ _ h => h) T ?_
      simp only [Act.put, List.setIfInBounds_toArray, List.set_cons_zero, List.set_cons_succ]
      refine pureH (i := 19) (some 46) rfl (.int .u32 (qB (tN s k A) (tN s k B) (tN s k C) (tN s k D))) rfl rfl (fun _ => by kernel_rfl) (by kernel_rfl) (by kernel_rfl) (by kernel_rfl) (fun _ _ _ h => h) T ?_
      simp only [Act.put, List.setIfInBounds_toArray, List.set_cons_zero, List.set_cons_succ]
      refine pureH (i := 20) (some 47) rfl (.int .u32 (qC (tN s k A) (tN s k B) (tN s k C) (tN s k D))) rfl rfl (fun _ => by kernel_rfl) (by kernel_rfl) (by kernel_rfl) (by kernel_rfl) (fun _ _ _ h => h) T ?_
      simp only [Act.put, List.setIfInBounds_toArray, List.set_cons_zero, List.set_cons_succ]
      refine pureH (i := 21) (some 48) rfl (.int .u32 (qD (tN s k A) (tN s k B) (tN s k C) (tN s k D))) rfl rfl (fun _ => by kernel_rfl) (by kernel_rfl) (by kernel_rfl) (by kernel_rfl) (fun _ _ _ h => h) T ?_
      simp only [Act.put, List.setIfInBounds_toArray, List.set_cons_zero, List.set_cons_succ]
      have h0 := K.hs
      have r0 := K.hr
      have f0 := K.fr
      clear K
      refine pureH (i := 22) (some 49) rfl (.pointer (some ⟨w.heap.size, A, none⟩)) rfl rfl (fun w' => idx16 w.heap.size A l1 w' _ _ rfl rfl rfl) (by kernel_rfl) (by kernel_rfl) (by kernel_rfl) (fun _ _ _ h => h) T ?_
      simp only [Act.put, List.setIfInBounds_toArray, List.set_cons_zero, List.set_cons_succ]
      refine storeH (i := 23) none rfl .u32 (qA (tN s k A) (tN s k B) (tN s k C) (tN s k D)) w.heap.size A 22 _ _ (by kernel_rfl) rfl rfl rfl rfl rfl (by rw [h0.cell A l1]; rfl) (h0.free A l1) (by kernel_rfl) T ?_
      simp only [Act.put]
      have h1 := h0.set A l1 (qA (tN s k A) (tN s k B) (tN s k C) (tN s k D))
      have r1 := r0.set_other ⟨w.heap.size, A, none⟩ (.int .u32 (qA (tN s k A) (tN s k B) (tN s k C) (tN s k D))) (by simp)
      have f1 := f0.set ⟨w.heap.size, A, none⟩ (.int .u32 (qA (tN s k A) (tN s k B) (tN s k C) (tN s k D))) (by simp)
      clear h0 r0 f0
      refine pureH (i := 24) (some 50) rfl (.pointer (some ⟨w.heap.size, B, none⟩)) rfl rfl (fun w' => idx16 w.heap.size B l2 w' _ _ rfl rfl rfl) (by kernel_rfl) (by kernel_rfl) (by kernel_rfl) (fun _ _ _ h => h) T ?_
      simp only [Act.put, List.setIfInBounds_toArray, List.set_cons_zero, List.set_cons_succ]
      refine storeH (i := 25) none rfl .u32 (qB (tN s k A) (tN s k B) (tN s k C) (tN s k D)) w.heap.size B 22 _ _ (by kernel_rfl) rfl rfl rfl rfl rfl (by rw [h1.cell B l2]; rfl) (h1.free B l2) (by kernel_rfl) T ?_
      simp only [Act.put]
      have h2 := h1.set B l2 (qB (tN s k A) (tN s k B) (tN s k C) (tN s k D))
      have r2 := r1.set_other ⟨w.heap.size, B, none⟩ (.int .u32 (qB (tN s k A) (tN s k B) (tN s k C) (tN s k D))) (by simp)
      have f2 := f1.set ⟨w.heap.size, B, none⟩ (.int .u32 (qB (tN s k A) (tN s k B) (tN s k C) (tN s k D))) (by simp)
      clear h1 r1 f1
      refine pureH (i := 26) (some 51) rfl (.pointer (some ⟨w.heap.size, C, none⟩)) rfl rfl (fun w' => idx16 w.heap.size C l3 w' _ _ rfl rfl rfl) (by kernel_rfl) (by kernel_rfl) (by kernel_rfl) (fun _ _ _ h => h) T ?_
      simp only [Act.put, List.setIfInBounds_toArray, List.set_cons_zero, List.set_cons_succ]
      refine storeH (i := 27) none rfl .u32 (qC (tN s k A) (tN s k B) (tN s k C) (tN s k D)) w.heap.size C 22 _ _ (by kernel_rfl) rfl rfl rfl rfl rfl (by rw [h2.cell C l3]; rfl) (h2.free C l3) (by kernel_rfl) T ?_
      simp only [Act.put]
      have h3 := h2.set C l3 (qC (tN s k A) (tN s k B) (tN s k C) (tN s k D))
      have r3 := r2.set_other ⟨w.heap.size, C, none⟩ (.int .u32 (qC (tN s k A) (tN s k B) (tN s k C) (tN s k D))) (by simp)
      have f3 := f2.set ⟨w.heap.size, C, none⟩ (.int .u32 (qC (tN s k A) (tN s k B) (tN s k C) (tN s k D))) (by simp)
      clear h2 r2 f2
      refine pureH (i := 28) (some 52) rfl (.pointer (some ⟨w.heap.size, D, none⟩)) rfl rfl (fun w' => idx16 w.heap.size D l4 w' _ _ rfl rfl rfl) (by kernel_rfl) (by kernel_rfl) (by kernel_rfl) (fun _ _ _ h => h) T ?_
      simp only [Act.put, List.setIfInBounds_toArray, List.set_cons_zero, List.set_cons_succ]
      refine storeH (i := 29) none rfl .u32 (qD (tN s k A) (tN s k B) (tN s k C) (tN s k D)) w.heap.size D 22 _ _ (by kernel_rfl) rfl rfl rfl rfl rfl (by rw [h3.cell D l4]; rfl) (h3.free D l4) (by kernel_rfl) T ?_
      simp only [Act.put]
      have h4 := h3.set D l4 (qD (tN s k A) (tN s k B) (tN s k C) (tN s k D))
      have r4 := r3.set_other ⟨w.heap.size, D, none⟩ (.int .u32 (qD (tN s k A) (tN s k B) (tN s k C) (tN s k D))) (by simp)
      have f4 := f3.set ⟨w.heap.size, D, none⟩ (.int .u32 (qD (tN s k A) (tN s k B) (tN s k C) (tN s k D))) (by simp)
      clear h3 r3 f3
      refine wpAnyH_done (by kernel_rfl) ?_ _
      rw [← HT.out] at h4
      have HS := show Hid _ from (HDI.mk h4 r4 f4)
      clear h4 r4 f4 T l1 l2 l3 l4
      go_wp2
      go_roundw
      case rel => exact ⟨k + 1, by omega, by go_num, HS.out⟩
      case measure => simp [intOf]; omega
    · obtain rfl : k = 8 := by omega
      have hs := hI.hs
      have hz := hI.hr
      have hB := (hI.fr.setAll (w.heap.size + 1) (by omega) (row .u32 16 (tN s 8))).below
      clear hI hlt hk hG
      generalize hf : tN s 8 = f at *
      go_wp2_with (first | (refine wpList_load_mid rfl 47 _ rfl (w.heap.size) 0 rfl (row .u32 16 (f)) _ (Has.range (hs)) Tryd.underlying47 rfl (hs_info _) ?_) | (refine wpList_store_mid rfl 47 _ _ rfl (w.heap.size + 1) 0 (row .u32 16 (f)).toArray rfl rfl (hs_there (hz)) (hs_info' _) (all_oneCell_toArray (row_one _ _ _)) ?_))
      exact bodyPost_ret (v := (.agg (row .u32 16 (f)).toArray)) (results_row Tryd.results19 rfl (Has.all hz.there .u32 _).range Tryd.underlying47 rfl (hs_info _)) rfl ⟨by rw [hf], hB⟩
end Go.Proofs.YtldebgblkaaojaaDoor
