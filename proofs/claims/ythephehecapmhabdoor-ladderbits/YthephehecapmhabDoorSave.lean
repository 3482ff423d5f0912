/- What save comes to: the least bytes of a number. -/
import Derived.Test.YthephehecapmhabDoorLeast
import Derived.Test.YthephehecapmhabDoorLoad
namespace Go.Proofs.YthephehecapmhabDoor
open Go.RowKit

theorem key_zero (w : World) (t : TypeId) (b : Nat) (hb : b = w.heap.size) : Has (w.alloc (.cells #[.int .u8 0, .int .u8 0, .int .u8 0, .int .u8 0, .int .u8 0, .int .u8 0, .int .u8 0, .int .u8 0, .int .u8 0, .int .u8 0, .int .u8 0, .int .u8 0, .int .u8 0, .int .u8 0, .int .u8 0, .int .u8 0, .int .u8 0, .int .u8 0, .int .u8 0, .int .u8 0, .int .u8 0, .int .u8 0, .int .u8 0, .int .u8 0, .int .u8 0, .int .u8 0, .int .u8 0, .int .u8 0, .int .u8 0, .int .u8 0, .int .u8 0, .int .u8 0] t)) b .u8 32 (fun _ => 0) := Has.new w .u8 32 (fun _ => 0) t b hb

theorem index_num0 (m : Nat → Int) (w : World) : (Instr.index 46 (.agg (row .u64 4 m).toArray) (.int .i64 0)).run Tryd.prog w = .ok (.int .u64 (m 0)) w := by kernel_rfl
theorem index_num1 (m : Nat → Int) (w : World) : (Instr.index 46 (.agg (row .u64 4 m).toArray) (.int .i64 1)).run Tryd.prog w = .ok (.int .u64 (m 1)) w := by kernel_rfl
theorem index_num2 (m : Nat → Int) (w : World) : (Instr.index 46 (.agg (row .u64 4 m).toArray) (.int .i64 2)).run Tryd.prog w = .ok (.int .u64 (m 2)) w := by kernel_rfl
theorem index_num3 (m : Nat → Int) (w : World) : (Instr.index 46 (.agg (row .u64 4 m).toArray) (.int .i64 3)).run Tryd.prog w = .ok (.int .u64 (m 3)) w := by kernel_rfl
theorem index_num (m : Nat → Int) (k : Nat) (hk : k < 4) (w : World) : (Instr.index 46 (.agg (row .u64 4 m).toArray) (.int .i64 (k : Int))).run Tryd.prog w = .ok (.int .u64 (m k)) w := by
  have h : k = 0 ∨ k = 1 ∨ k = 2 ∨ k = 3 := by omega
  rcases h with rfl | rfl | rfl | rfl
  · exact index_num0 m w
  · exact index_num1 m w
  · exact index_num2 m w
  · exact index_num3 m w

structure GInv (m : Nat → Int) (w : World) (B : Nat) (k : Nat) (f : Nat → Int) (w' : World) : Prop where
  inn : In 256 32 f
  eq : val 256 f (8 * k) = val W m k
  hb : Has w' B .u8 32 f
  hr : Has w' (w.heap.size + 1) .u8 32 (fun _ => 0)
  fr : Fr w 2 w'

theorem GInv.step {m : Nat → Int} {w : World} {B k : Nat} {f : Nat → Int} {w' : World} (h : GInv m w B k f w') (hB : w.heap.size + 2 ≤ B) (hm : 0 ≤ m k ∧ m k < W) (hk : k < 4) :
    GInv m w B (k + 1) (over f (8 * k) 8 (byt (m k))) (w'.setCells B (8 * k) (row .u8 8 (byt (m k)))) := by
  refine ⟨over_in h.inn (byt_in _), ?_, h.hb.part (8 * k) 8 (by omega) (byt (m k)), h.hr.setAll_other _ (by omega) _ _, ⟨below_setAll h.fr.below B (by omega) _ _, by rw [size_setAll]; exact h.fr.size⟩⟩
  have e := val_cut 256 (over f (8 * k) 8 (byt (m k))) (8 * k) 8
  have e1 : val 256 (over f (8 * k) 8 (byt (m k))) (8 * k) = val 256 f (8 * k) := val_congr 256 _ fun j hj => by unfold over; rw [if_neg (by omega)]
  have e2 : val 256 (fun j => over f (8 * k) 8 (byt (m k)) (8 * k + j)) 8 = m k := by
    rw [val_congr 256 8 (g := byt (m k)) (fun j hj => by unfold over; rw [if_pos (by omega), Nat.add_sub_cancel_left])]
    exact val_byt (m k) hm.1 hm.2
  have p0 := pow_word k 0
  simp only [Nat.add_zero, Int.pow_zero, Int.mul_one] at p0
  rw [show 8 * (k + 1) = 8 * k + 8 by omega, e, e1, e2, p0, h.eq]
  rfl
set_option maxRecDepth 10000 in
set_option maxHeartbeats 4000000 in
theorem save_any (n : Nat → Int) (hn : In W 4 n) (w : World) (hg : Glob w) :
    Calls Tryd.prog 24 #[(.agg (row .u64 4 (n)).toArray)] w fun e w' => ∃ f : Nat → Int, e = .returned (.agg (row .u8 32 (f)).toArray) ∧ (In 256 32 f ∧ val 256 f 32 = val W n 4 % Q) ∧ Below w.heap.size w w' := by
  have a0 : Has ((w.alloc (.cells (row .u64 4 n).toArray 46)).alloc (.cells #[.int .u8 0, .int .u8 0, .int .u8 0, .int .u8 0, .int .u8 0, .int .u8 0, .int .u8 0, .int .u8 0, .int .u8 0, .int .u8 0, .int .u8 0, .int .u8 0, .int .u8 0, .int .u8 0, .int .u8 0, .int .u8 0, .int .u8 0, .int .u8 0, .int .u8 0, .int .u8 0, .int .u8 0, .int .u8 0, .int .u8 0, .int .u8 0, .int .u8 0, .int .u8 0, .int .u8 0, .int .u8 0, .int .u8 0, .int .u8 0, .int .u8 0, .int .u8 0] 23)) w.heap.size .u64 4 n := (Has.new w _ _ _ _ _ rfl).alloc _ (by simp)
  have z0 : Has ((w.alloc (.cells (row .u64 4 n).toArray 46)).alloc (.cells #[.int .u8 0, .int .u8 0, .int .u8 0, .int .u8 0, .int .u8 0, .int .u8 0, .int .u8 0, .int .u8 0, .int .u8 0, .int .u8 0, .int .u8 0, .int .u8 0, .int .u8 0, .int .u8 0, .int .u8 0, .int .u8 0, .int .u8 0, .int .u8 0, .int .u8 0, .int .u8 0, .int .u8 0, .int .u8 0, .int .u8 0, .int .u8 0, .int .u8 0, .int .u8 0, .int .u8 0, .int .u8 0, .int .u8 0, .int .u8 0, .int .u8 0, .int .u8 0] 23)) (w.heap.size + 1) .u8 32 (fun _ => 0) := key_zero _ _ _ (by simp)
  have g0 : Fr w 2 ((w.alloc (.cells (row .u64 4 n).toArray 46)).alloc (.cells #[.int .u8 0, .int .u8 0, .int .u8 0, .int .u8 0, .int .u8 0, .int .u8 0, .int .u8 0, .int .u8 0, .int .u8 0, .int .u8 0, .int .u8 0, .int .u8 0, .int .u8 0, .int .u8 0, .int .u8 0, .int .u8 0, .int .u8 0, .int .u8 0, .int .u8 0, .int .u8 0, .int .u8 0, .int .u8 0, .int .u8 0, .int .u8 0, .int .u8 0, .int .u8 0, .int .u8 0, .int .u8 0, .int .u8 0, .int .u8 0, .int .u8 0, .int .u8 0] 23)) := ((Fr.refl w).alloc _).alloc _
  go_enter Tryd.func24, Tryd.ntmps24
  go_wp2_with (refine wpList_load_mid rfl 46 _ rfl (w.heap.size) 0 rfl (row .u64 4 (n)) _ (Has.range (a0)) Tryd.underlying46 rfl (num_info _) ?_)
  refine (least_any n hn _ (hg.fr g0)).mono ?_
  rintro e w1 ⟨m, rfl, s1, l1⟩
  have g1 := (g0.call l1).setAll w.heap.size (Nat.le_refl _) (row .u64 4 m)
  have a1' := a0.call g0 l1 (by omega)
  have a1 := Has.all a1'.there .u64 m
  have z1 := (z0.call g0 l1 (by omega)).setAll_other w.heap.size (by omega) 0 (row .u64 4 m)
  have a2 := a1.alloc (.cells #[.int .u8 0, .int .u8 0, .int .u8 0, .int .u8 0, .int .u8 0, .int .u8 0, .int .u8 0, .int .u8 0, .int .u8 0, .int .u8 0, .int .u8 0, .int .u8 0, .int .u8 0, .int .u8 0, .int .u8 0, .int .u8 0, .int .u8 0, .int .u8 0, .int .u8 0, .int .u8 0, .int .u8 0, .int .u8 0, .int .u8 0, .int .u8 0, .int .u8 0, .int .u8 0, .int .u8 0, .int .u8 0, .int .u8 0, .int .u8 0, .int .u8 0, .int .u8 0] 23) (by have := g1.size; omega)
  have tok : True := trivial
  clear a0 z0 g0 l1
  have hN : w.heap.size + 2 ≤ (w1.setCells w.heap.size 0 (row .u64 4 m)).heap.size := g1.size
  rw [size_setAll] at hN
  go_wp2_with (first | (have _t := tok; refine wpList_store_mid rfl 46 _ _ rfl (w.heap.size) 0 (row .u64 4 (m)).toArray rfl rfl (num_there (a1')) (num_info' _) (all_oneCell_toArray (row_one _ _ _)) ?_; clear tok) | (refine wpList_load_mid rfl 46 _ rfl (w.heap.size) 0 rfl (row .u64 4 (m)) _ (Has.range (a2)) Tryd.underlying46 rfl (num_info _) ?_))
  have b2 := key_zero (w1.setCells w.heap.size 0 (row .u64 4 m)) 23 _ rfl
  have z2 := z1.alloc (.cells #[.int .u8 0, .int .u8 0, .int .u8 0, .int .u8 0, .int .u8 0, .int .u8 0, .int .u8 0, .int .u8 0, .int .u8 0, .int .u8 0, .int .u8 0, .int .u8 0, .int .u8 0, .int .u8 0, .int .u8 0, .int .u8 0, .int .u8 0, .int .u8 0, .int .u8 0, .int .u8 0, .int .u8 0, .int .u8 0, .int .u8 0, .int .u8 0, .int .u8 0, .int .u8 0, .int .u8 0, .int .u8 0, .int .u8 0, .int .u8 0, .int .u8 0, .int .u8 0] 23) (by rw [size_setAll]; omega)
  have g2 := g1.alloc (.cells #[.int .u8 0, .int .u8 0, .int .u8 0, .int .u8 0, .int .u8 0, .int .u8 0, .int .u8 0, .int .u8 0, .int .u8 0, .int .u8 0, .int .u8 0, .int .u8 0, .int .u8 0, .int .u8 0, .int .u8 0, .int .u8 0, .int .u8 0, .int .u8 0, .int .u8 0, .int .u8 0, .int .u8 0, .int .u8 0, .int .u8 0, .int .u8 0, .int .u8 0, .int .u8 0, .int .u8 0, .int .u8 0, .int .u8 0, .int .u8 0, .int .u8 0, .int .u8 0] 23)
  have hB : w.heap.size + 2 ≤ (w1.setCells w.heap.size 0 (row .u64 4 m)).heap.size := g1.size
  clear a1 a1' a2 z1 g1 hN
  generalize (w1.setCells w.heap.size 0 (row .u64 4 m)).heap.size = B at *
  generalize (w1.setCells w.heap.size 0 (row .u64 4 m)).alloc (.cells #[.int .u8 0, .int .u8 0, .int .u8 0, .int .u8 0, .int .u8 0, .int .u8 0, .int .u8 0, .int .u8 0, .int .u8 0, .int .u8 0, .int .u8 0, .int .u8 0, .int .u8 0, .int .u8 0, .int .u8 0, .int .u8 0, .int .u8 0, .int .u8 0, .int .u8 0, .int .u8 0, .int .u8 0, .int .u8 0, .int .u8 0, .int .u8 0, .int .u8 0, .int .u8 0, .int .u8 0, .int .u8 0, .int .u8 0, .int .u8 0, .int .u8 0, .int .u8 0] 23) = W2 at *
  go_loopw [9] (fun i w' => ∃ (k : Nat) (f : Nat → Int), k ≤ 4 ∧ i = .int .i64 k ∧ GInv m w B k f w') (fun i _ => 4 - (intOf i).toNat)
  case atStart => exact ⟨0, fun _ => 0, by omega, rfl, ⟨fun _ _ => ⟨Int.le_refl 0, by decide⟩, rfl, b2, z2, ⟨g2.below, by have := g2.size; omega⟩⟩⟩
  case round =>
    obtain ⟨k, f, hk, rfl, hI⟩ := hrel
    clear b2 z2 g2
    by_cases hlt : k < 4
    · have g1 : (0 : Int) ≤ (k : Int) := by omega
      have g2 : (k : Int) < 4 := by omega
      have hcut := cut_key B k hlt
      have hix := index_num m k hlt
      have i1 := s1.1 k hlt
      have HS := show Hid _ from hI.step hB i1 hlt
      have HC := show Hid _ from put_any B (8 * k) 32 (32 - 8 * k) f (m k) (by omega) wr hI.hb
      have H1 := show Hid _ from s1
      clear hI s1 i1
      generalize m k = x at *
      go_wp2_with fail
      refine Calls.mono HC.out ?_
      rintro e w' ⟨rfl, rfl⟩
      clear HC
      generalize wr.setCells B (8 * k) (row .u8 8 (byt x)) = w2 at *
      go_wp2
      go_roundw
      case rel => exact ⟨k + 1, _, by omega, by go_num, HS.out⟩
      case measure => simp [intOf]; omega
    · obtain rfl : k = 4 := by omega
      have hb := hI.hb
      have hz := hI.hr
      have hE : In 256 32 f ∧ val 256 f 32 = val W n 4 % Q := ⟨hI.inn, hI.eq.trans s1.2⟩
      have HE := show Hid _ from hE
      clear hE s1 hlt hk
      go_wp2_with (first | (refine wpList_load_mid rfl 23 _ rfl (B) 0 rfl (row .u8 32 (f)) _ (Has.range (hb)) Tryd.underlying23 rfl (key_info _) ?_) | (refine wpList_store_mid rfl 23 _ _ rfl (w.heap.size + 1) 0 (row .u8 32 (f)).toArray rfl rfl (key_there (hz)) (key_info' _) (all_oneCell_toArray (row_one _ _ _)) ?_))
      exact bodyPost_ret (v := (.agg (row .u8 32 (f)).toArray)) (results_row Tryd.results24 rfl (Has.all hz.there .u8 f).range Tryd.underlying23 rfl (key_info f)) rfl ⟨f, rfl, HE.out, (hI.fr.setAll _ (by omega) _).below⟩
end Go.Proofs.YthephehecapmhabDoor
