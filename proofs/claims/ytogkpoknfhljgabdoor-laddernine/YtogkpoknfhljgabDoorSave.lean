/- What save comes to: the least bytes of a number. -/
import Derived.Test.YtogkpoknfhljgabDoorLeast
import Derived.Test.YtogkpoknfhljgabDoorLoad
namespace Go.Proofs.YtogkpoknfhljgabDoor
open Go.RowKit

theorem key_zero (w : World) (t : TypeId) (b : Nat) (hb : b = w.heap.size) : Has (w.alloc (.cells #[.int .u8 0, .int .u8 0, .int .u8 0, .int .u8 0, .int .u8 0, .int .u8 0, .int .u8 0, .int .u8 0, .int .u8 0, .int .u8 0, .int .u8 0, .int .u8 0, .int .u8 0, .int .u8 0, .int .u8 0, .int .u8 0, .int .u8 0, .int .u8 0, .int .u8 0, .int .u8 0, .int .u8 0, .int .u8 0, .int .u8 0, .int .u8 0, .int .u8 0, .int .u8 0, .int .u8 0, .int .u8 0, .int .u8 0, .int .u8 0, .int .u8 0, .int .u8 0] t)) b .u8 32 (fun _ => 0) := Has.new w .u8 32 (fun _ => 0) t b hb

theorem index_num0 (m : Nat → Int) (w : World) : (Instr.index 46 (.agg (row .u64 4 m).toArray) (.int .i64 0)).run Tryd.prog w = .ok (.int .u64 (m 0)) w := by kernel_rfl
theorem index_num1 (m : Nat → Int) (w : World) : (Instr.index 46 (.agg (row .u64 4 m).toArray) (.int .i64 1)).run Tryd.prog w = .ok (.int .u64 (m 1)) w := by kernel_rfl
theorem index_num2 (m : Nat → Int) (w : World) : (Instr.index 46 (.agg (row .u64 4 m).toArray) (.int .i64 2)).run Tryd.prog w = .ok (.int .u64 (m 2)) w := by kernel_rfl
theorem index_num3 (m : Nat → Int) (w : World) : (Instr.index 46 (.agg (row .u64 4 m).toArray) (.int .i64 3)).run Tryd.prog w = .ok (.int .u64 (m 3)) w := by kernel_rfl
theorem index_num (m : Nat → Int) (k : Nat) (hk : k < 4) (w : World) : (Instr.index 46 (.agg (row .u64 4 m).toArray) (.int .i64 (k : Int))).run Tryd.prog w = .ok (.int .u64 (m k)) w := by
  have h : k = 0 ∨ k = 1 ∨ k = 2 ∨ k = 3 := by omega
  rcases h with rfl | rfl | rfl | rfl
  · exact index_num0 m w
  · exact index_num1 m w
  · exact index_num2 m w
  · exact index_num3 m w

structure GInv (m : Nat → Int) (w : World) (B : Nat) (k : Nat) (f : Nat → Int) (w' : World) : Prop where
  inn : In 256 32 f
  eq : val 256 f (8 * k) = val W m k
  hb : Has w' B .u8 32 f
  hr : Has w' (w.heap.size + 1) .u8 32 (fun _ => 0)
  fr : Fr w 2 w'

theorem bytes_of (x : Int) (h0 : 0 ≤ x) (h1 : x < 18446744073709551616) : x % 256 + 256 * (x / 256 % 256) + 65536 * (x / 65536 % 256) + 16777216 * (x / 16777216 % 256) + 4294967296 * (x / 4294967296 % 256) + 1099511627776 * (x / 1099511627776 % 256) + 281474976710656 * (x / 281474976710656 % 256) + 72057594037927936 * (x / 72057594037927936 % 256) = x := by omega

theorem GInv.step {m : Nat → Int} {w : World} {B k : Nat} {f : Nat → Int} {w' : World} (h : GInv m w B k f w') (hB : w.heap.size + 2 ≤ B) (hm : 0 ≤ m k ∧ m k < W) (hk : k < 4) :
    GInv m w B (k + 1) ((upd (upd (upd (upd (upd (upd (upd (upd f (8 * k) (m k % 256)) (8 * k + 1) (m k / 256 % 256)) (8 * k + 2) (m k / 65536 % 256)) (8 * k + 3) (m k / 16777216 % 256)) (8 * k + 4) (m k / 4294967296 % 256)) (8 * k + 5) (m k / 1099511627776 % 256)) (8 * k + 6) (m k / 281474976710656 % 256)) (8 * k + 7) (m k / 72057594037927936 % 256))) (((((((((w'.setCell ⟨B, 8 * k, none⟩ (.int .u8 (m k % 256))).setCell ⟨B, 8 * k + 1, none⟩ (.int .u8 (m k / 256 % 256))).setCell ⟨B, 8 * k + 2, none⟩ (.int .u8 (m k / 65536 % 256))).setCell ⟨B, 8 * k + 3, none⟩ (.int .u8 (m k / 16777216 % 256))).setCell ⟨B, 8 * k + 4, none⟩ (.int .u8 (m k / 4294967296 % 256))).setCell ⟨B, 8 * k + 5, none⟩ (.int .u8 (m k / 1099511627776 % 256))).setCell ⟨B, 8 * k + 6, none⟩ (.int .u8 (m k / 281474976710656 % 256))).setCell ⟨B, 8 * k + 7, none⟩ (.int .u8 (m k / 72057594037927936 % 256)))) := by
  refine ⟨((((((((h.inn.upd (8 * k) (m k % 256) (by omega) (by omega)).upd (8 * k + 1) (m k / 256 % 256) (by omega) (by omega)).upd (8 * k + 2) (m k / 65536 % 256) (by omega) (by omega)).upd (8 * k + 3) (m k / 16777216 % 256) (by omega) (by omega)).upd (8 * k + 4) (m k / 4294967296 % 256) (by omega) (by omega)).upd (8 * k + 5) (m k / 1099511627776 % 256) (by omega) (by omega)).upd (8 * k + 6) (m k / 281474976710656 % 256) (by omega) (by omega)).upd (8 * k + 7) (m k / 72057594037927936 % 256) (by omega) (by omega)), ?_, ((((((((h.hb.set (8 * k) (by omega) _).set (8 * k + 1) (by omega) _).set (8 * k + 2) (by omega) _).set (8 * k + 3) (by omega) _).set (8 * k + 4) (by omega) _).set (8 * k + 5) (by omega) _).set (8 * k + 6) (by omega) _).set (8 * k + 7) (by omega) _), ((((((((h.hr.set_other ⟨B, 8 * k, none⟩ _ (by simp; omega)).set_other ⟨B, 8 * k + 1, none⟩ _ (by simp; omega)).set_other ⟨B, 8 * k + 2, none⟩ _ (by simp; omega)).set_other ⟨B, 8 * k + 3, none⟩ _ (by simp; omega)).set_other ⟨B, 8 * k + 4, none⟩ _ (by simp; omega)).set_other ⟨B, 8 * k + 5, none⟩ _ (by simp; omega)).set_other ⟨B, 8 * k + 6, none⟩ _ (by simp; omega)).set_other ⟨B, 8 * k + 7, none⟩ _ (by simp; omega)), ((((((((h.fr.set ⟨B, 8 * k, none⟩ _ (by simp; omega)).set ⟨B, 8 * k + 1, none⟩ _ (by simp; omega)).set ⟨B, 8 * k + 2, none⟩ _ (by simp; omega)).set ⟨B, 8 * k + 3, none⟩ _ (by simp; omega)).set ⟨B, 8 * k + 4, none⟩ _ (by simp; omega)).set ⟨B, 8 * k + 5, none⟩ _ (by simp; omega)).set ⟨B, 8 * k + 6, none⟩ _ (by simp; omega)).set ⟨B, 8 * k + 7, none⟩ _ (by simp; omega))⟩
  have e : 8 * (k + 1) = 8 * k + 7 + 1 := by omega
  rw [e]
  simp only [val]
  have p0 := pow_word k 0
  simp only [Nat.add_zero, Int.pow_zero, Int.mul_one] at p0
  rw [p0, pow_word k 1, pow_word k 2, pow_word k 3, pow_word k 4, pow_word k 5, pow_word k 6, pow_word k 7]
  have hv : val 256 ((upd (upd (upd (upd (upd (upd (upd (upd f (8 * k) (m k % 256)) (8 * k + 1) (m k / 256 % 256)) (8 * k + 2) (m k / 65536 % 256)) (8 * k + 3) (m k / 16777216 % 256)) (8 * k + 4) (m k / 4294967296 % 256)) (8 * k + 5) (m k / 1099511627776 % 256)) (8 * k + 6) (m k / 281474976710656 % 256)) (8 * k + 7) (m k / 72057594037927936 % 256))) (8 * k) = val 256 f (8 * k) := by
    rw [val_upd _ _ _ _ _ (by omega), val_upd _ _ _ _ _ (by omega), val_upd _ _ _ _ _ (by omega), val_upd _ _ _ _ _ (by omega), val_upd _ _ _ _ _ (by omega), val_upd _ _ _ _ _ (by omega), val_upd _ _ _ _ _ (by omega), val_upd _ _ _ _ _ (Nat.le_refl _)]
  rw [hv, h.eq]
  have u0 : ((upd (upd (upd (upd (upd (upd (upd (upd f (8 * k) (m k % 256)) (8 * k + 1) (m k / 256 % 256)) (8 * k + 2) (m k / 65536 % 256)) (8 * k + 3) (m k / 16777216 % 256)) (8 * k + 4) (m k / 4294967296 % 256)) (8 * k + 5) (m k / 1099511627776 % 256)) (8 * k + 6) (m k / 281474976710656 % 256)) (8 * k + 7) (m k / 72057594037927936 % 256))) (8 * k) = m k % 256 := by rw [upd_other _ _ _ _ (by omega), upd_other _ _ _ _ (by omega), upd_other _ _ _ _ (by omega), upd_other _ _ _ _ (by omega), upd_other _ _ _ _ (by omega), upd_other _ _ _ _ (by omega), upd_other _ _ _ _ (by omega), upd_same]
  have u1 : ((upd (upd (upd (upd (upd (upd (upd (upd f (8 * k) (m k % 256)) (8 * k + 1) (m k / 256 % 256)) (8 * k + 2) (m k / 65536 % 256)) (8 * k + 3) (m k / 16777216 % 256)) (8 * k + 4) (m k / 4294967296 % 256)) (8 * k + 5) (m k / 1099511627776 % 256)) (8 * k + 6) (m k / 281474976710656 % 256)) (8 * k + 7) (m k / 72057594037927936 % 256))) (8 * k + 1) = m k / 256 % 256 := by rw [upd_other _ _ _ _ (by omega), upd_other _ _ _ _ (by omega), upd_other _ _ _ _ (by omega), upd_other _ _ _ _ (by omega), upd_other _ _ _ _ (by omega), upd_other _ _ _ _ (by omega), upd_same]
  have u2 : ((upd (upd (upd (upd (upd (upd (upd (upd f (8 * k) (m k % 256)) (8 * k + 1) (m k / 256 % 256)) (8 * k + 2) (m k / 65536 % 256)) (8 * k + 3) (m k / 16777216 % 256)) (8 * k + 4) (m k / 4294967296 % 256)) (8 * k + 5) (m k / 1099511627776 % 256)) (8 * k + 6) (m k / 281474976710656 % 256)) (8 * k + 7) (m k / 72057594037927936 % 256))) (8 * k + 2) = m k / 65536 % 256 := by rw [upd_other _ _ _ _ (by omega), upd_other _ _ _ _ (by omega), upd_other _ _ _ _ (by omega), upd_other _ _ _ _ (by omega), upd_other _ _ _ _ (by omega), upd_same]
  have u3 : ((upd (upd (upd (upd (upd (upd (upd (upd f (8 * k) (m k % 256)) (8 * k + 1) (m k / 256 % 256)) (8 * k + 2) (m k / 65536 % 256)) (8 * k + 3) (m k / 16777216 % 256)) (8 * k + 4) (m k / 4294967296 % 256)) (8 * k + 5) (m k / 1099511627776 % 256)) (8 * k + 6) (m k / 281474976710656 % 256)) (8 * k + 7) (m k / 72057594037927936 % 256))) (8 * k + 3) = m k / 16777216 % 256 := by rw [upd_other _ _ _ _ (by omega), upd_other _ _ _ _ (by omega), upd_other _ _ _ _ (by omega), upd_other _ _ _ _ (by omega), upd_same]
  have u4 : ((upd (upd (upd (upd (upd (upd (upd (upd f (8 * k) (m k % 256)) (8 * k + 1) (m k / 256 % 256)) (8 * k + 2) (m k / 65536 % 256)) (8 * k + 3) (m k / 16777216 % 256)) (8 * k + 4) (m k / 4294967296 % 256)) (8 * k + 5) (m k / 1099511627776 % 256)) (8 * k + 6) (m k / 281474976710656 % 256)) (8 * k + 7) (m k / 72057594037927936 % 256))) (8 * k + 4) = m k / 4294967296 % 256 := by rw [upd_other _ _ _ _ (by omega), upd_other _ _ _ _ (by omega), upd_other _ _ _ _ (by omega), upd_same]
  have u5 : ((upd (upd (upd (upd (upd (upd (upd (upd f (8 * k) (m k % 256)) (8 * k + 1) (m k / 256 % 256)) (8 * k + 2) (m k / 65536 % 256)) (8 * k + 3) (m k / 16777216 % 256)) (8 * k + 4) (m k / 4294967296 % 256)) (8 * k + 5) (m k / 1099511627776 % 256)) (8 * k + 6) (m k / 281474976710656 % 256)) (8 * k + 7) (m k / 72057594037927936 % 256))) (8 * k + 5) = m k / 1099511627776 % 256 := by rw [upd_other _ _ _ _ (by omega), upd_other _ _ _ _ (by omega), upd_same]
  have u6 : ((upd (upd (upd (upd (upd (upd (upd (upd f (8 * k) (m k % 256)) (8 * k + 1) (m k / 256 % 256)) (8 * k + 2) (m k / 65536 % 256)) (8 * k + 3) (m k / 16777216 % 256)) (8 * k + 4) (m k / 4294967296 % 256)) (8 * k + 5) (m k / 1099511627776 % 256)) (8 * k + 6) (m k / 281474976710656 % 256)) (8 * k + 7) (m k / 72057594037927936 % 256))) (8 * k + 6) = m k / 281474976710656 % 256 := by rw [upd_other _ _ _ _ (by omega), upd_same]
  have u7 : ((upd (upd (upd (upd (upd (upd (upd (upd f (8 * k) (m k % 256)) (8 * k + 1) (m k / 256 % 256)) (8 * k + 2) (m k / 65536 % 256)) (8 * k + 3) (m k / 16777216 % 256)) (8 * k + 4) (m k / 4294967296 % 256)) (8 * k + 5) (m k / 1099511627776 % 256)) (8 * k + 6) (m k / 281474976710656 % 256)) (8 * k + 7) (m k / 72057594037927936 % 256))) (8 * k + 7) = m k / 72057594037927936 % 256 := by rw [upd_same]
  rw [u0, u1, u2, u3, u4, u5, u6, u7]
  have hx := bytes_of (m k) hm.1 (by have := hm.2; simp only [W] at this; omega)
  have hx2 : W ^ k * (m k) = W ^ k * (m k % 256 + 256 * (m k / 256 % 256) + 65536 * (m k / 65536 % 256) + 16777216 * (m k / 16777216 % 256) + 4294967296 * (m k / 4294967296 % 256) + 1099511627776 * (m k / 1099511627776 % 256) + 281474976710656 * (m k / 281474976710656 % 256) + 72057594037927936 * (m k / 72057594037927936 % 256)) := by rw [hx]
  rw [hx2]
  simp only [Int.mul_add, Int.mul_assoc]
  have n2 : (256 : Int) ^ 2 = 65536 := by decide
  have n3 : (256 : Int) ^ 3 = 16777216 := by decide
  have n4 : (256 : Int) ^ 4 = 4294967296 := by decide
  have n5 : (256 : Int) ^ 5 = 1099511627776 := by decide
  have n6 : (256 : Int) ^ 6 = 281474976710656 := by decide
  have n7 : (256 : Int) ^ 7 = 72057594037927936 := by decide
  rw [n2, n3, n4, n5, n6, n7, Int.pow_one]
  omega

set_option maxRecDepth 10000 in
set_option maxHeartbeats 4000000 in
theorem save_any (n : Nat → Int) (hn : In W 4 n) (w : World) (hg : Glob w) :
    Calls Tryd.prog 24 #[(.agg (row .u64 4 (n)).toArray)] w fun e w' => ∃ f : Nat → Int, e = .returned (.agg (row .u8 32 (f)).toArray) ∧ (In 256 32 f ∧ val 256 f 32 = val W n 4 % Q) ∧ Below w.heap.size w w' := by
  have a0 : Has ((w.alloc (.cells (row .u64 4 n).toArray 46)).alloc (.cells #[.int .u8 0, .int .u8 0, .int .u8 0, .int .u8 0, .int .u8 0, .int .u8 0, .int .u8 0, .int .u8 0, .int .u8 0, .int .u8 0, .int .u8 0, .int .u8 0, .int .u8 0, .int .u8 0, .int .u8 0, .int .u8 0, .int .u8 0, .int .u8 0, .int .u8 0, .int .u8 0, .int .u8 0, .int .u8 0, .int .u8 0, .int .u8 0, .int .u8 0, .int .u8 0, .int .u8 0, .int .u8 0, .int .u8 0, .int .u8 0, .int .u8 0, .int .u8 0] 23)) w.heap.size .u64 4 n := (Has.new w _ _ _ _ _ rfl).alloc _ (by simp)
  have z0 : Has ((w.alloc (.cells (row .u64 4 n).toArray 46)).alloc (.cells #[.int .u8 0, .int .u8 0, .int .u8 0, .int .u8 0, .int .u8 0, .int .u8 0, .int .u8 0, .int .u8 0, .int .u8 0, .int .u8 0, .int .u8 0, .int .u8 0, .int .u8 0, .int .u8 0, .int .u8 0, .int .u8 0, .int .u8 0, .int .u8 0, .int .u8 0, .int .u8 0, .int .u8 0, .int .u8 0, .int .u8 0, .int .u8 0, .int .u8 0, .int .u8 0, .int .u8 0, .int .u8 0, .int .u8 0, .int .u8 0, .int .u8 0, .int .u8 0] 23)) (w.heap.size + 1) .u8 32 (fun _ => 0) := key_zero _ _ _ (by simp)
  have g0 : Fr w 2 ((w.alloc (.cells (row .u64 4 n).toArray 46)).alloc (.cells #[.int .u8 0, .int .u8 0, .int .u8 0, .int .u8 0, .int .u8 0, .int .u8 0, .int .u8 0, .int .u8 0, .int .u8 0, .int .u8 0, .int .u8 0, .int .u8 0, .int .u8 0, .int .u8 0, .int .u8 0, .int .u8 0, .int .u8 0, .int .u8 0, .int .u8 0, .int .u8 0, .int .u8 0, .int .u8 0, .int .u8 0, .int .u8 0, .int .u8 0, .int .u8 0, .int .u8 0, .int .u8 0, .int .u8 0, .int .u8 0, .int .u8 0, .int .u8 0] 23)) := ((Fr.refl w).alloc _).alloc _
  go_enter Tryd.func24, Tryd.ntmps24
  go_wp2_with (refine wpList_load_mid rfl 46 _ rfl (w.heap.size) 0 rfl (row .u64 4 (n)) _ (Has.range (a0)) Tryd.underlying46 rfl (num_info _) ?_)
  refine (least_any n hn _ (hg.fr g0)).mono ?_
  rintro e w1 ⟨m, rfl, s1, l1⟩
  have g1 := (g0.call l1).setAll w.heap.size (Nat.le_refl _) (row .u64 4 m)
  have a1' := a0.call g0 l1 (by omega)
  have a1 := Has.all a1'.there .u64 m
  have z1 := (z0.call g0 l1 (by omega)).setAll_other w.heap.size (by omega) 0 (row .u64 4 m)
  have a2 := a1.alloc (.cells #[.int .u8 0, .int .u8 0, .int .u8 0, .int .u8 0, .int .u8 0, .int .u8 0, .int .u8 0, .int .u8 0, .int .u8 0, .int .u8 0, .int .u8 0, .int .u8 0, .int .u8 0, .int .u8 0, .int .u8 0, .int .u8 0, .int .u8 0, .int .u8 0, .int .u8 0, .int .u8 0, .int .u8 0, .int .u8 0, .int .u8 0, .int .u8 0, .int .u8 0, .int .u8 0, .int .u8 0, .int .u8 0, .int .u8 0, .int .u8 0, .int .u8 0, .int .u8 0] 23) (by have := g1.size; omega)
  have tok : True := trivial
  clear a0 z0 g0 l1
  have hN : w.heap.size + 2 ≤ (w1.setCells w.heap.size 0 (row .u64 4 m)).heap.size := g1.size
  rw [size_setAll] at hN
  go_wp2_with (first | (have _t := tok; refine wpList_store_mid rfl 46 _ _ rfl (w.heap.size) 0 (row .u64 4 (m)).toArray rfl rfl (num_there (a1')) (num_info' _) (all_oneCell_toArray (row_one _ _ _)) ?_; clear tok) | (refine wpList_load_mid rfl 46 _ rfl (w.heap.size) 0 rfl (row .u64 4 (m)) _ (Has.range (a2)) Tryd.underlying46 rfl (num_info _) ?_))
  have b2 := key_zero (w1.setCells w.heap.size 0 (row .u64 4 m)) 23 _ rfl
  have z2 := z1.alloc (.cells #[.int .u8 0, .int .u8 0, .int .u8 0, .int .u8 0, .int .u8 0, .int .u8 0, .int .u8 0, .int .u8 0, .int .u8 0, .int .u8 0, .int .u8 0, .int .u8 0, .int .u8 0, .int .u8 0, .int .u8 0, .int .u8 0, .int .u8 0, .int .u8 0, .int .u8 0, .int .u8 0, .int .u8 0, .int .u8 0, .int .u8 0, .int .u8 0, .int .u8 0, .int .u8 0, .int .u8 0, .int .u8 0, .int .u8 0, .int .u8 0, .int .u8 0, .int .u8 0] 23) (by rw [size_setAll]; omega)
  have g2 := g1.alloc (.cells #[.int .u8 0, .int .u8 0, .int .u8 0, .int .u8 0, .int .u8 0, .int .u8 0, .int .u8 0, .int .u8 0, .int .u8 0, .int .u8 0, .int .u8 0, .int .u8 0, .int .u8 0, .int .u8 0, .int .u8 0, .int .u8 0, .int .u8 0, .int .u8 0, .int .u8 0, .int .u8 0, .int .u8 0, .int .u8 0, .int .u8 0, .int .u8 0, .int .u8 0, .int .u8 0, .int .u8 0, .int .u8 0, .int .u8 0, .int .u8 0, .int .u8 0, .int .u8 0] 23)
  have hB : w.heap.size + 2 ≤ (w1.setCells w.heap.size 0 (row .u64 4 m)).heap.size := g1.size
  clear a1 a1' a2 z1 g1 hN
  generalize (w1.setCells w.heap.size 0 (row .u64 4 m)).heap.size = B at *
  generalize (w1.setCells w.heap.size 0 (row .u64 4 m)).alloc (.cells #[.int .u8 0, .int .u8 0, .int .u8 0, .int .u8 0, .int .u8 0, .int .u8 0, .int .u8 0, .int .u8 0, .int .u8 0, .int .u8 0, .int .u8 0, .int .u8 0, .int .u8 0, .int .u8 0, .int .u8 0, .int .u8 0, .int .u8 0, .int .u8 0, .int .u8 0, .int .u8 0, .int .u8 0, .int .u8 0, .int .u8 0, .int .u8 0, .int .u8 0, .int .u8 0, .int .u8 0, .int .u8 0, .int .u8 0, .int .u8 0, .int .u8 0, .int .u8 0] 23) = W2 at *
  go_loopw [10] (fun i w' => ∃ (k : Nat) (f : Nat → Int), k ≤ 4 ∧ i = .int .i64 k ∧ GInv m w B k f w') (fun i _ => 4 - (intOf i).toNat)
  case atStart => exact ⟨0, fun _ => 0, by omega, rfl, ⟨fun _ _ => ⟨Int.le_refl 0, by decide⟩, rfl, b2, z2, ⟨g2.below, by have := g2.size; omega⟩⟩⟩
  case round =>
    obtain ⟨k, f, hk, rfl, hI⟩ := hrel
    clear b2 z2 g2
    by_cases hlt : k < 4
    · have g1 : (0 : Int) ≤ (k : Int) := by omega
      have g2 : (k : Int) < 4 := by omega
      have hcut := cut_key B k hlt
      have hix := index_num m k hlt
      have c0 := hI.hb.cell (8 * k) (by omega)
      have c1 := hI.hb.cell (8 * k + 1) (by omega)
      have c2 := hI.hb.cell (8 * k + 2) (by omega)
      have c3 := hI.hb.cell (8 * k + 3) (by omega)
      have c4 := hI.hb.cell (8 * k + 4) (by omega)
      have c5 := hI.hb.cell (8 * k + 5) (by omega)
      have c6 := hI.hb.cell (8 * k + 6) (by omega)
      have c7 := hI.hb.cell (8 * k + 7) (by omega)
      have f0 := hI.hb.free (8 * k) (by omega)
      have f1 := hI.hb.free (8 * k + 1) (by omega)
      have f2 := hI.hb.free (8 * k + 2) (by omega)
      have f3 := hI.hb.free (8 * k + 3) (by omega)
      have f4 := hI.hb.free (8 * k + 4) (by omega)
      have f5 := hI.hb.free (8 * k + 5) (by omega)
      have f6 := hI.hb.free (8 * k + 6) (by omega)
      have f7 := hI.hb.free (8 * k + 7) (by omega)
      have i1 := s1.1 k hlt
      have HS := show Hid _ from hI.step hB i1 hlt
      have H1 := show Hid _ from s1
      clear hI s1
      generalize m k = x at *
      generalize f (8 * k + 7) = y7 at *
      generalize f (8 * k + 6) = y6 at *
      generalize f (8 * k + 5) = y5 at *
      generalize f (8 * k + 4) = y4 at *
      generalize f (8 * k + 3) = y3 at *
      generalize f (8 * k + 2) = y2 at *
      generalize f (8 * k + 1) = y1 at *
      generalize f (8 * k) = y0 at *
      go_wp2
      go_roundw
      case rel => exact ⟨k + 1, _, by omega, by go_num, HS.out⟩
      case measure => simp [intOf]; omega
    · obtain rfl : k = 4 := by omega
      have hb := hI.hb
      have hz := hI.hr
      have hE : In 256 32 f ∧ val 256 f 32 = val W n 4 % Q := ⟨hI.inn, hI.eq.trans s1.2⟩
      have HE := show Hid _ from hE
      clear hE s1 hlt hk
      go_wp2_with (first | (refine wpList_load_mid rfl 23 _ rfl (B) 0 rfl (row .u8 32 (f)) _ (Has.range (hb)) Tryd.underlying23 rfl (key_info _) ?_) | (refine wpList_store_mid rfl 23 _ _ rfl (w.heap.size + 1) 0 (row .u8 32 (f)).toArray rfl rfl (key_there (hz)) (key_info' _) (all_oneCell_toArray (row_one _ _ _)) ?_))
      exact bodyPost_ret (v := (.agg (row .u8 32 (f)).toArray)) (results_row Tryd.results24 rfl (Has.all hz.there .u8 f).range Tryd.underlying23 rfl (key_info f)) rfl ⟨f, rfl, HE.out, (hI.fr.setAll _ (by omega) _).below⟩
end Go.Proofs.YtogkpoknfhljgabDoor
