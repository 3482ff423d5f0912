/- What the document's own start and rows answer. -/
import Derived.Test.YtmchfdfmcobenaaDoorBm
namespace Go.Proofs.YtmchfdfmcobenaaDoor
open Go.RowKit

set_option maxRecDepth 10000 in
theorem refStart_any (w : World) :
    Calls Tryd.prog 19 #[] w fun e w' => ∃ B, e = .returned (.slice (some ⟨B, 0, none⟩) 8 8) ∧ (w.heap.size ≤ B ∧ B < w'.heap.size ∧ Has w' B .u32 8 iv) ∧ Below w.heap.size w w' := by
  have H := Has.new w .u32 8 iv 36 w.heap.size rfl
  have hb := (Below.refl w.heap.size w).alloc (Nat.le_refl _) (.cells (row .u32 8 iv).toArray 36)
  have hz := size_new w (.cells (row .u32 8 iv).toArray 36)
  go_enter Tryd.func19, Tryd.ntmps19
  go_upto_region 1 with fail
  refine wp_region_list ?_
  refine actL (w' := w.alloc (.cells (row .u32 8 iv).toArray 36)) (.slice (some ⟨w.heap.size, 0, none⟩) 8 8) rfl (by kernel_rfl) ?_
  simp only [Act.put, List.setIfInBounds_toArray, List.set_cons_zero, List.set_cons_succ]
  refine pureL (.slice (some ⟨w.heap.size, 0, none⟩) 8 8) rfl (fun _ => by kernel_rfl) ?_
  simp only [Act.put, List.setIfInBounds_toArray, List.set_cons_zero]
  show Exit.then _ _ _ _ _
  generalize w.alloc (.cells (row .u32 8 iv).toArray 36) = w1 at H hb hz ⊢
  go_wp2
  go_ret
  exact ⟨w.heap.size, rfl, ⟨Nat.le_refl _, by omega, H⟩, hb⟩

/-- The rows, each in a block, and a block of slices of them. -/
structure SGT (w' : World) (O : Nat) (bs : Nat → Nat) : Prop where
  top : ∀ r, r < 10 → w'.cell? ⟨O, r, none⟩ = some (.slice (some ⟨bs r, 0, none⟩) 16 16)
  rows : ∀ r, r < 10 → Has w' (bs r) .i64 16 (fun i => ((sg r i : Nat) : Int)) ∧ bs r < w'.heap.size
  lt : O < w'.heap.size
theorem SGT.below {w w' : World} {O : Nat} {bs : Nat → Nat} (h : SGT w O bs) {B : Nat} (l : Below B w w') (hB : w.heap.size ≤ B) : SGT w' O bs :=
  ⟨fun r hr => by rw [l.cell (p := ⟨O, r, none⟩) (Nat.lt_of_lt_of_le h.lt hB)]; exact h.top r hr, fun r hr => ⟨(h.rows r hr).1.below l (Nat.lt_of_lt_of_le (h.rows r hr).2 hB), Nat.lt_of_lt_of_le (h.rows r hr).2 l.size⟩, Nat.lt_of_lt_of_le h.lt l.size⟩

set_option maxRecDepth 10000 in
set_option maxHeartbeats 4000000 in
theorem refRows_any (w : World) :
    Calls Tryd.prog 27 #[] w fun e w' => ∃ O bs, e = .returned (.slice (some ⟨O, 0, none⟩) 10 10) ∧ (w.heap.size ≤ O ∧ (∀ r, r < 10 → w.heap.size ≤ bs r) ∧ SGT w' O bs) ∧ Below w.heap.size w w' := by
  have K := Kr.init w
  go_enter Tryd.func27, Tryd.ntmps27
  go_upto_region 1 with fail
  refine wp_region_list ?_
  refine actL (w' := w.alloc (.cells (row .i64 16 (fun i => ((sg 0 i : Nat) : Int))).toArray 3)) (.slice (some ⟨w.heap.size, 0, none⟩) 16 16) rfl (by kernel_rfl) ?_
  simp only [Act.put, List.setIfInBounds_toArray, List.set_cons_zero, List.set_cons_succ]
  have z0 := K.size
  replace K := K.box .i64 16 (fun i => ((sg 0 i : Nat) : Int)) 3 w.heap.size rfl
  generalize w.alloc (.cells (row .i64 16 (fun i => ((sg 0 i : Nat) : Int))).toArray 3) = w0 at K ⊢
  refine actL (w' := w0.alloc (.cells (row .i64 16 (fun i => ((sg 1 i : Nat) : Int))).toArray 3)) (.slice (some ⟨w0.heap.size, 0, none⟩) 16 16) rfl (by kernel_rfl) ?_
  simp only [Act.put, List.setIfInBounds_toArray, List.set_cons_zero, List.set_cons_succ]
  have z1 := K.size
  replace K := K.box .i64 16 (fun i => ((sg 1 i : Nat) : Int)) 3 w0.heap.size rfl
  generalize w0.alloc (.cells (row .i64 16 (fun i => ((sg 1 i : Nat) : Int))).toArray 3) = w1 at K ⊢
  generalize w0.heap.size = B1 at K z1 ⊢
  refine actL (w' := w1.alloc (.cells (row .i64 16 (fun i => ((sg 2 i : Nat) : Int))).toArray 3)) (.slice (some ⟨w1.heap.size, 0, none⟩) 16 16) rfl (by kernel_rfl) ?_
  simp only [Act.put, List.setIfInBounds_toArray, List.set_cons_zero, List.set_cons_succ]
  have z2 := K.size
  replace K := K.box .i64 16 (fun i => ((sg 2 i : Nat) : Int)) 3 w1.heap.size rfl
  generalize w1.alloc (.cells (row .i64 16 (fun i => ((sg 2 i : Nat) : Int))).toArray 3) = w2 at K ⊢
  generalize w1.heap.size = B2 at K z2 ⊢
  refine actL (w' := w2.alloc (.cells (row .i64 16 (fun i => ((sg 3 i : Nat) : Int))).toArray 3)) (.slice (some ⟨w2.heap.size, 0, none⟩) 16 16) rfl (by kernel_rfl) ?_
  simp only [Act.put, List.setIfInBounds_toArray, List.set_cons_zero, List.set_cons_succ]
  have z3 := K.size
  replace K := K.box .i64 16 (fun i => ((sg 3 i : Nat) : Int)) 3 w2.heap.size rfl
  generalize w2.alloc (.cells (row .i64 16 (fun i => ((sg 3 i : Nat) : Int))).toArray 3) = w3 at K ⊢
  generalize w2.heap.size = B3 at K z3 ⊢
  refine actL (w' := w3.alloc (.cells (row .i64 16 (fun i => ((sg 4 i : Nat) : Int))).toArray 3)) (.slice (some ⟨w3.heap.size, 0, none⟩) 16 16) rfl (by kernel_rfl) ?_
  simp only [Act.put, List.setIfInBounds_toArray, List.set_cons_zero, List.set_cons_succ]
  have z4 := K.size
  replace K := K.box .i64 16 (fun i => ((sg 4 i : Nat) : Int)) 3 w3.heap.size rfl
  generalize w3.alloc (.cells (row .i64 16 (fun i => ((sg 4 i : Nat) : Int))).toArray 3) = w4 at K ⊢
  generalize w3.heap.size = B4 at K z4 ⊢
  refine actL (w' := w4.alloc (.cells (row .i64 16 (fun i => ((sg 5 i : Nat) : Int))).toArray 3)) (.slice (some ⟨w4.heap.size, 0, none⟩) 16 16) rfl (by kernel_rfl) ?_
  simp only [Act.put, List.setIfInBounds_toArray, List.set_cons_zero, List.set_cons_succ]
  have z5 := K.size
  replace K := K.box .i64 16 (fun i => ((sg 5 i : Nat) : Int)) 3 w4.heap.size rfl
  generalize w4.alloc (.cells (row .i64 16 (fun i => ((sg 5 i : Nat) : Int))).toArray 3) = w5 at K ⊢
  generalize w4.heap.size = B5 at K z5 ⊢
  refine actL (w' := w5.alloc (.cells (row .i64 16 (fun i => ((sg 6 i : Nat) : Int))).toArray 3)) (.slice (some ⟨w5.heap.size, 0, none⟩) 16 16) rfl (by kernel_rfl) ?_
  simp only [Act.put, List.setIfInBounds_toArray, List.set_cons_zero, List.set_cons_succ]
  have z6 := K.size
  replace K := K.box .i64 16 (fun i => ((sg 6 i : Nat) : Int)) 3 w5.heap.size rfl
  generalize w5.alloc (.cells (row .i64 16 (fun i => ((sg 6 i : Nat) : Int))).toArray 3) = w6 at K ⊢
  generalize w5.heap.size = B6 at K z6 ⊢
  refine actL (w' := w6.alloc (.cells (row .i64 16 (fun i => ((sg 7 i : Nat) : Int))).toArray 3)) (.slice (some ⟨w6.heap.size, 0, none⟩) 16 16) rfl (by kernel_rfl) ?_
  simp only [Act.put, List.setIfInBounds_toArray, List.set_cons_zero, List.set_cons_succ]
  have z7 := K.size
  replace K := K.box .i64 16 (fun i => ((sg 7 i : Nat) : Int)) 3 w6.heap.size rfl
  generalize w6.alloc (.cells (row .i64 16 (fun i => ((sg 7 i : Nat) : Int))).toArray 3) = w7 at K ⊢
  generalize w6.heap.size = B7 at K z7 ⊢
  refine actL (w' := w7.alloc (.cells (row .i64 16 (fun i => ((sg 8 i : Nat) : Int))).toArray 3)) (.slice (some ⟨w7.heap.size, 0, none⟩) 16 16) rfl (by kernel_rfl) ?_
  simp only [Act.put, List.setIfInBounds_toArray, List.set_cons_zero, List.set_cons_succ]
  have z8 := K.size
  replace K := K.box .i64 16 (fun i => ((sg 8 i : Nat) : Int)) 3 w7.heap.size rfl
  generalize w7.alloc (.cells (row .i64 16 (fun i => ((sg 8 i : Nat) : Int))).toArray 3) = w8 at K ⊢
  generalize w7.heap.size = B8 at K z8 ⊢
  refine actL (w' := w8.alloc (.cells (row .i64 16 (fun i => ((sg 9 i : Nat) : Int))).toArray 3)) (.slice (some ⟨w8.heap.size, 0, none⟩) 16 16) rfl (by kernel_rfl) ?_
  simp only [Act.put, List.setIfInBounds_toArray, List.set_cons_zero, List.set_cons_succ]
  have z9 := K.size
  replace K := K.box .i64 16 (fun i => ((sg 9 i : Nat) : Int)) 3 w8.heap.size rfl
  generalize w8.alloc (.cells (row .i64 16 (fun i => ((sg 9 i : Nat) : Int))).toArray 3) = w9 at K ⊢
  generalize w8.heap.size = B9 at K z9 ⊢
  refine actL (w' := w9.alloc (.cells #[.slice (some ⟨w.heap.size, 0, none⟩) 16 16, .slice (some ⟨B1, 0, none⟩) 16 16, .slice (some ⟨B2, 0, none⟩) 16 16, .slice (some ⟨B3, 0, none⟩) 16 16, .slice (some ⟨B4, 0, none⟩) 16 16, .slice (some ⟨B5, 0, none⟩) 16 16, .slice (some ⟨B6, 0, none⟩) 16 16, .slice (some ⟨B7, 0, none⟩) 16 16, .slice (some ⟨B8, 0, none⟩) 16 16, .slice (some ⟨B9, 0, none⟩) 16 16] 55)) (.slice (some ⟨w9.heap.size, 0, none⟩) 10 10) rfl (by kernel_rfl) ?_
  simp only [Act.put, List.setIfInBounds_toArray, List.set_cons_zero, List.set_cons_succ]
  refine pureL (.slice (some ⟨w9.heap.size, 0, none⟩) 10 10) rfl (fun _ => by kernel_rfl) ?_
  simp only [Act.put, List.setIfInBounds_toArray, List.set_cons_zero]
  have K2 := K.call ((Below.refl w9.heap.size w9).alloc (Nat.le_refl _) (.cells #[.slice (some ⟨w.heap.size, 0, none⟩) 16 16, .slice (some ⟨B1, 0, none⟩) 16 16, .slice (some ⟨B2, 0, none⟩) 16 16, .slice (some ⟨B3, 0, none⟩) 16 16, .slice (some ⟨B4, 0, none⟩) 16 16, .slice (some ⟨B5, 0, none⟩) 16 16, .slice (some ⟨B6, 0, none⟩) 16 16, .slice (some ⟨B7, 0, none⟩) 16 16, .slice (some ⟨B8, 0, none⟩) 16 16, .slice (some ⟨B9, 0, none⟩) 16 16] 55))
  have hc : ∀ i, (w9.alloc (.cells #[.slice (some ⟨w.heap.size, 0, none⟩) 16 16, .slice (some ⟨B1, 0, none⟩) 16 16, .slice (some ⟨B2, 0, none⟩) 16 16, .slice (some ⟨B3, 0, none⟩) 16 16, .slice (some ⟨B4, 0, none⟩) 16 16, .slice (some ⟨B5, 0, none⟩) 16 16, .slice (some ⟨B6, 0, none⟩) 16 16, .slice (some ⟨B7, 0, none⟩) 16 16, .slice (some ⟨B8, 0, none⟩) 16 16, .slice (some ⟨B9, 0, none⟩) 16 16] 55)).cell? ⟨w9.heap.size, i, none⟩ = #[.slice (some ⟨w.heap.size, 0, none⟩) 16 16, .slice (some ⟨B1, 0, none⟩) 16 16, .slice (some ⟨B2, 0, none⟩) 16 16, .slice (some ⟨B3, 0, none⟩) 16 16, .slice (some ⟨B4, 0, none⟩) 16 16, .slice (some ⟨B5, 0, none⟩) 16 16, .slice (some ⟨B6, 0, none⟩) 16 16, .slice (some ⟨B7, 0, none⟩) 16 16, .slice (some ⟨B8, 0, none⟩) 16 16, .slice (some ⟨B9, 0, none⟩) 16 16][i]? := fun i => World.cell?_alloc_at _ _ _ _ rfl
  have hz := size_new w9 (.cells #[.slice (some ⟨w.heap.size, 0, none⟩) 16 16, .slice (some ⟨B1, 0, none⟩) 16 16, .slice (some ⟨B2, 0, none⟩) 16 16, .slice (some ⟨B3, 0, none⟩) 16 16, .slice (some ⟨B4, 0, none⟩) 16 16, .slice (some ⟨B5, 0, none⟩) 16 16, .slice (some ⟨B6, 0, none⟩) 16 16, .slice (some ⟨B7, 0, none⟩) 16 16, .slice (some ⟨B8, 0, none⟩) 16 16, .slice (some ⟨B9, 0, none⟩) 16 16] 55)
  generalize w9.alloc (.cells #[.slice (some ⟨w.heap.size, 0, none⟩) 16 16, .slice (some ⟨B1, 0, none⟩) 16 16, .slice (some ⟨B2, 0, none⟩) 16 16, .slice (some ⟨B3, 0, none⟩) 16 16, .slice (some ⟨B4, 0, none⟩) 16 16, .slice (some ⟨B5, 0, none⟩) 16 16, .slice (some ⟨B6, 0, none⟩) 16 16, .slice (some ⟨B7, 0, none⟩) 16 16, .slice (some ⟨B8, 0, none⟩) 16 16, .slice (some ⟨B9, 0, none⟩) 16 16] 55) = w10 at K2 hc hz ⊢
  have hs9 := K.size
  have hb9 := K.base
  clear K
  show Exit.then _ _ _ _ _
  have hS : SGT w10 w9.heap.size (fun r => [w.heap.size, B1, B2, B3, B4, B5, B6, B7, B8, B9].getD r 0) := ⟨fun r hr => by
    rw [hc]
    match r, hr with
    | 0, _ | 1, _ | 2, _ | 3, _ | 4, _ | 5, _ | 6, _ | 7, _ | 8, _ | 9, _ => rfl, fun r hr => by
    match r, hr with
    | 0, _ => exact ⟨K2.get _ _ _ _ (List.mem_cons_of_mem _ (List.mem_cons_of_mem _ (List.mem_cons_of_mem _ (List.mem_cons_of_mem _ (List.mem_cons_of_mem _ (List.mem_cons_of_mem _ (List.mem_cons_of_mem _ (List.mem_cons_of_mem _ (List.mem_cons_of_mem _ List.mem_cons_self))))))))), by show w.heap.size < w10.heap.size; omega⟩
    | 1, _ => exact ⟨K2.get _ _ _ _ (List.mem_cons_of_mem _ (List.mem_cons_of_mem _ (List.mem_cons_of_mem _ (List.mem_cons_of_mem _ (List.mem_cons_of_mem _ (List.mem_cons_of_mem _ (List.mem_cons_of_mem _ (List.mem_cons_of_mem _ List.mem_cons_self)))))))), by show B1 < w10.heap.size; omega⟩
    | 2, _ => exact ⟨K2.get _ _ _ _ (List.mem_cons_of_mem _ (List.mem_cons_of_mem _ (List.mem_cons_of_mem _ (List.mem_cons_of_mem _ (List.mem_cons_of_mem _ (List.mem_cons_of_mem _ (List.mem_cons_of_mem _ List.mem_cons_self))))))), by show B2 < w10.heap.size; omega⟩
    | 3, _ => exact ⟨K2.get _ _ _ _ (List.mem_cons_of_mem _ (List.mem_cons_of_mem _ (List.mem_cons_of_mem _ (List.mem_cons_of_mem _ (List.mem_cons_of_mem _ (List.mem_cons_of_mem _ List.mem_cons_self)))))), by show B3 < w10.heap.size; omega⟩
    | 4, _ => exact ⟨K2.get _ _ _ _ (List.mem_cons_of_mem _ (List.mem_cons_of_mem _ (List.mem_cons_of_mem _ (List.mem_cons_of_mem _ (List.mem_cons_of_mem _ List.mem_cons_self))))), by show B4 < w10.heap.size; omega⟩
    | 5, _ => exact ⟨K2.get _ _ _ _ (List.mem_cons_of_mem _ (List.mem_cons_of_mem _ (List.mem_cons_of_mem _ (List.mem_cons_of_mem _ List.mem_cons_self)))), by show B5 < w10.heap.size; omega⟩
    | 6, _ => exact ⟨K2.get _ _ _ _ (List.mem_cons_of_mem _ (List.mem_cons_of_mem _ (List.mem_cons_of_mem _ List.mem_cons_self))), by show B6 < w10.heap.size; omega⟩
    | 7, _ => exact ⟨K2.get _ _ _ _ (List.mem_cons_of_mem _ (List.mem_cons_of_mem _ List.mem_cons_self)), by show B7 < w10.heap.size; omega⟩
    | 8, _ => exact ⟨K2.get _ _ _ _ (List.mem_cons_of_mem _ List.mem_cons_self), by show B8 < w10.heap.size; omega⟩
    | 9, _ => exact ⟨K2.get _ _ _ _ List.mem_cons_self, by show B9 < w10.heap.size; omega⟩, by omega⟩
  have hB := K2.below
  have hge : ∀ r, r < 10 → w.heap.size ≤ [w.heap.size, B1, B2, B3, B4, B5, B6, B7, B8, B9].getD r 0 := fun r hr => by
    match r, hr with
    | 0, _ => show w.heap.size ≤ w.heap.size; omega
    | 1, _ => show w.heap.size ≤ B1; omega
    | 2, _ => show w.heap.size ≤ B2; omega
    | 3, _ => show w.heap.size ≤ B3; omega
    | 4, _ => show w.heap.size ≤ B4; omega
    | 5, _ => show w.heap.size ≤ B5; omega
    | 6, _ => show w.heap.size ≤ B6; omega
    | 7, _ => show w.heap.size ≤ B7; omega
    | 8, _ => show w.heap.size ≤ B8; omega
    | 9, _ => show w.heap.size ≤ B9; omega
  clear K2 hc
  go_wp2
  go_ret
  exact ⟨w9.heap.size, _, rfl, ⟨by omega, hge, hS⟩, hB⟩
end Go.Proofs.YtmchfdfmcobenaaDoor
