/- What the document's own Trim answers. -/
import Derived.Test.YthephehecapmhaaDoorTrim
namespace Go.Proofs.YthephehecapmhaaDoor
open Go.RowKit

theorem not7_8 : ∀ x : Fin 256, bits BinOp.andNot IntKind.u8 (x.val : Int) 7 = (x.val : Int) / 8 * 8 := by decide +kernel
theorem not7 (x : Int) (h : 0 ≤ x ∧ x < 256) : bits BinOp.andNot IntKind.u8 x 7 = x / 8 * 8 := by
  obtain ⟨n, rfl⟩ := Int.eq_ofNat_of_zero_le h.1
  exact not7_8 ⟨n, by omega⟩
set_option maxRecDepth 10000 in
set_option maxHeartbeats 4000000 in
theorem refTrim_any (k : Nat → Int) (hk : In 256 32 k) (w : World) :
    Calls Tryd.prog 11 #[(.agg (row .u8 32 (k)).toArray)] w fun e w' => e = .returned (.agg (row .u8 32 (trim k)).toArray) ∧ Below w.heap.size w w' := by
  have a0 : Has ((w.alloc (.cells (row .u8 32 k).toArray 23)).alloc (.cells #[.int .u8 0, .int .u8 0, .int .u8 0, .int .u8 0, .int .u8 0, .int .u8 0, .int .u8 0, .int .u8 0, .int .u8 0, .int .u8 0, .int .u8 0, .int .u8 0, .int .u8 0, .int .u8 0, .int .u8 0, .int .u8 0, .int .u8 0, .int .u8 0, .int .u8 0, .int .u8 0, .int .u8 0, .int .u8 0, .int .u8 0, .int .u8 0, .int .u8 0, .int .u8 0, .int .u8 0, .int .u8 0, .int .u8 0, .int .u8 0, .int .u8 0, .int .u8 0] 23)) w.heap.size .u8 32 k := (Has.new w _ _ _ _ _ rfl).alloc _ (by simp)
  have z0 : Has ((w.alloc (.cells (row .u8 32 k).toArray 23)).alloc (.cells #[.int .u8 0, .int .u8 0, .int .u8 0, .int .u8 0, .int .u8 0, .int .u8 0, .int .u8 0, .int .u8 0, .int .u8 0, .int .u8 0, .int .u8 0, .int .u8 0, .int .u8 0, .int .u8 0, .int .u8 0, .int .u8 0, .int .u8 0, .int .u8 0, .int .u8 0, .int .u8 0, .int .u8 0, .int .u8 0, .int .u8 0, .int .u8 0, .int .u8 0, .int .u8 0, .int .u8 0, .int .u8 0, .int .u8 0, .int .u8 0, .int .u8 0, .int .u8 0] 23)) (w.heap.size + 1) .u8 32 (fun _ => 0) := key_zero _ _ _ (by simp)
  have g0 : Fr w 2 ((w.alloc (.cells (row .u8 32 k).toArray 23)).alloc (.cells #[.int .u8 0, .int .u8 0, .int .u8 0, .int .u8 0, .int .u8 0, .int .u8 0, .int .u8 0, .int .u8 0, .int .u8 0, .int .u8 0, .int .u8 0, .int .u8 0, .int .u8 0, .int .u8 0, .int .u8 0, .int .u8 0, .int .u8 0, .int .u8 0, .int .u8 0, .int .u8 0, .int .u8 0, .int .u8 0, .int .u8 0, .int .u8 0, .int .u8 0, .int .u8 0, .int .u8 0, .int .u8 0, .int .u8 0, .int .u8 0, .int .u8 0, .int .u8 0] 23)) := ((Fr.refl w).alloc _).alloc _
  generalize hW : ((w.alloc (.cells (row .u8 32 k).toArray 23)).alloc (.cells #[.int .u8 0, .int .u8 0, .int .u8 0, .int .u8 0, .int .u8 0, .int .u8 0, .int .u8 0, .int .u8 0, .int .u8 0, .int .u8 0, .int .u8 0, .int .u8 0, .int .u8 0, .int .u8 0, .int .u8 0, .int .u8 0, .int .u8 0, .int .u8 0, .int .u8 0, .int .u8 0, .int .u8 0, .int .u8 0, .int .u8 0, .int .u8 0, .int .u8 0, .int .u8 0, .int .u8 0, .int .u8 0, .int .u8 0, .int .u8 0, .int .u8 0, .int .u8 0] 23)) = w1 at *
  have c0 := a0.cell 0 (by omega)
  have f0 := a0.free 0 (by omega)
  have c1 := a0.cell 31 (by omega)
  have f1 := a0.free 31 (by omega)
  have e0 := not7 (k 0) (hk 0 (by omega))
  have e1 := trim_high (k 31) (hk 31 (by omega))
  have e2 := and127 (k 31) (hk 31 (by omega))
  rw [e2] at e1
  have h2 := ((a0.set 0 (by omega) (k 0 / 8 * 8)).set 31 (by omega) (k 31 % 64 + 64)).congr (g := trim k) (fun j hj => by
    unfold trim
    by_cases e : j = 31
    · subst e; rw [upd_same]; simp
    · rw [upd_other _ _ _ _ e]
      by_cases e0 : j = 0
      · subst e0; rw [upd_same]; simp
      · rw [upd_other _ _ _ _ e0]; simp [e0, e])
  have hz := (z0.set_other ⟨w.heap.size, 0, none⟩ (.int .u8 (k 0 / 8 * 8)) (by simp)).set_other ⟨w.heap.size, 31, none⟩ (.int .u8 (k 31 % 64 + 64)) (by simp)
  have hL := (((g0.set ⟨w.heap.size, 0, none⟩ (.int .u8 (k 0 / 8 * 8)) (by simp)).set ⟨w.heap.size, 31, none⟩ (.int .u8 (k 31 % 64 + 64)) (by simp)).setAll (w.heap.size + 1) (by omega) (row .u8 32 (trim k))).below
  go_enter Tryd.func11, Tryd.ntmps11
  go_upto_region 1 with fail
  clear hW
  go_wp2_with (first | (refine wpList_load_mid rfl 23 _ rfl (w.heap.size) 0 rfl (row .u8 32 (trim k)) _ (Has.range (h2)) Tryd.underlying23 rfl (key_info _) ?_) | (refine wpList_store_mid rfl 23 _ _ rfl (w.heap.size + 1) 0 (row .u8 32 (trim k)).toArray rfl rfl (key_there (hz)) (key_info' _) (all_oneCell_toArray (row_one _ _ _)) ?_))
  exact bodyPost_ret (v := (.agg (row .u8 32 (trim k)).toArray)) (results_row Tryd.results11 rfl (Has.all hz.there .u8 (trim k)).range Tryd.underlying23 rfl (key_info (trim k))) rfl ⟨rfl, hL⟩
end Go.Proofs.YthephehecapmhaaDoor
