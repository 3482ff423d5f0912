/- What fold makes of a clamp number. -/
import Derived.Test.YtnphoennagmiaaaDoorCn
namespace Go.Proofs.YtnphoennagmiaaaDoor
open Go.RowKit

theorem shr2 (z : Int) (h : 0 ≤ z ∧ z < 512) : IntKind.u64.wrap (z / 4 * 5) = z / 4 * 5 := by rw [IntKind.wrap_u64]; omega
theorem top2 (z d : Int) (h0 : 0 ≤ d ∧ d ≤ 1) : IntKind.u64.wrap (z % 4 + d) = z % 4 + d := by rw [IntKind.wrap_u64]; omega

set_option maxHeartbeats 2000000 in
theorem cfold_any (n : Nat → Int) (hn : In W 3 n) (hs : n 2 < 512) (w : World) :
    Calls Tryd.prog 29 #[(.agg (row .u64 3 (n)).toArray)] w fun e w' => ∃ m : Nat → Int, e = .returned (.agg (row .u64 3 (m)).toArray) ∧ (Folded m ∧ val W m 3 % Q = val W n 3 % Q) ∧ Below w.heap.size w w' := by
  have h0 := hn 0 (by omega)
  have h1 := hn 1 (by omega)
  have h2 : 0 ≤ n 2 ∧ n 2 < 512 := ⟨(hn 2 (by omega)).1, hs⟩
  have e0 : aLo (n 0) (n 2 / 4 * 5) 0 + W * aHi (n 0) (n 2 / 4 * 5) 0 = n 0 + n 2 / 4 * 5 := by simp only [W]; unfold aLo aHi; omega
  have l0 : 0 ≤ aLo (n 0) (n 2 / 4 * 5) 0 ∧ aLo (n 0) (n 2 / 4 * 5) 0 < W := by simp only [W]; unfold aLo; omega
  have k0 : 0 ≤ aHi (n 0) (n 2 / 4 * 5) 0 ∧ aHi (n 0) (n 2 / 4 * 5) 0 ≤ 1 := by simp only [W] at h0; unfold aHi; omega
  have hadd1 := add64 (n 0) (n 2 / 4 * 5) 0 h0.1 (by omega) (Int.le_refl 0) (by decide)
  generalize aHi (n 0) (n 2 / 4 * 5) 0 = c at *
  generalize aLo (n 0) (n 2 / 4 * 5) 0 = p at *
  have e1 : aLo (n 1) 0 c + W * aHi (n 1) 0 c = n 1 + c := by simp only [W]; unfold aLo aHi; omega
  have l1 : 0 ≤ aLo (n 1) 0 c ∧ aLo (n 1) 0 c < W := by simp only [W]; unfold aLo; omega
  have k1 : 0 ≤ aHi (n 1) 0 c ∧ aHi (n 1) 0 c ≤ 1 := by simp only [W] at h1; unfold aHi; omega
  have hadd2 := add64 (n 1) 0 c h1.1 (Int.le_refl 0) k0.1 k0.2
  generalize aHi (n 1) 0 c = d at *
  generalize aLo (n 1) 0 c = q at *
  have hM := fold_math h0 h1 h2 e0 l0 e1 l1 k1
  rw [← v3] at hM
  have s2 := shr2 (n 2) h2
  have s3 := and3 (n 2) h2.1 (by have := h2.2; simp only [W]; omega)
  have s4 := top2 (n 2) d k1
  have HM := show Hid _ from hM
  have a0 : Has ((w.alloc (.cells (row .u64 3 n).toArray 49)).alloc (.cells #[.int .u64 0, .int .u64 0, .int .u64 0] 49)) w.heap.size .u64 3 n := (Has.new w _ _ _ _ _ rfl).alloc _ (by simp)
  have z0 : Has ((w.alloc (.cells (row .u64 3 n).toArray 49)).alloc (.cells #[.int .u64 0, .int .u64 0, .int .u64 0] 49)) (w.heap.size + 1) .u64 3 (fun _ => 0) := cnum_zero _ _ _ (by simp)
  have g0 : Fr w 2 ((w.alloc (.cells (row .u64 3 n).toArray 49)).alloc (.cells #[.int .u64 0, .int .u64 0, .int .u64 0] 49)) := ((Fr.refl w).alloc _).alloc _
  have a1 := ((a0.set 0 (by omega) p).set 1 (by omega) q).set 2 (by omega) (n 2 % 4 + d)
  have a2 := a1.congr (g := tri p q (n 2 % 4 + d)) (fun j hj => by
    have : j = 0 ∨ j = 1 ∨ j = 2 := by omega
    rcases this with rfl | rfl | rfl <;> rfl)
  have z1 := ((z0.set_other ⟨w.heap.size, 0, none⟩ (.int .u64 p) (by simp)).set_other ⟨w.heap.size, 1, none⟩ (.int .u64 q) (by simp)).set_other ⟨w.heap.size, 2, none⟩ (.int .u64 (n 2 % 4 + d)) (by simp)
  have g1 := ((g0.set ⟨w.heap.size, 0, none⟩ (.int .u64 p) (by simp)).set ⟨w.heap.size, 1, none⟩ (.int .u64 q) (by simp)).set ⟨w.heap.size, 2, none⟩ (.int .u64 (n 2 % 4 + d)) (by simp)
  have hB := (g1.setAll (w.heap.size + 1) (by omega) (row .u64 3 (tri p q (n 2 % 4 + d)))).below
  have c0 := a0.cell 0 (by omega)
  have c1 := a0.cell 1 (by omega)
  have c2 := a0.cell 2 (by omega)
  have f0 := a0.free 0 (by omega)
  have f1 := a0.free 1 (by omega)
  have f2 := a0.free 2 (by omega)
  clear hM a0 z0 g0 g1 a1 e0 l0 k0 e1 l1 k1 h0 h1 h2 hs hn
  generalize n 0 = x at *
  generalize n 1 = y at *
  generalize n 2 = z at *
  go_enter Tryd.func29, Tryd.ntmps29
  go_upto_region 1 with fail
  generalize ((w.alloc (.cells (row .u64 3 n).toArray 49)).alloc (.cells #[.int .u64 0, .int .u64 0, .int .u64 0] 49)) = w1 at *
  go_wp2_with (first | (refine wpList_load_mid rfl 49 _ rfl (w.heap.size) 0 rfl (row .u64 3 (tri p q (z % 4 + d))) _ (Has.range (a2)) Tryd.underlying49 rfl (cnum_info _) ?_) | (refine wpList_store_mid rfl 49 _ _ rfl (w.heap.size + 1) 0 (row .u64 3 (tri p q (z % 4 + d))).toArray rfl rfl (cnum_there (z1)) (cnum_info' _) (all_oneCell_toArray (row_one _ _ _)) ?_))
  exact bodyPost_ret (v := (.agg (row .u64 3 (tri p q (z % 4 + d))).toArray)) (results_row Tryd.results29 rfl (Has.all z1.there .u64 _).range Tryd.underlying49 rfl (cnum_info _)) rfl ⟨_, rfl, HM.out, hB⟩
end Go.Proofs.YtnphoennagmiaaaDoor
