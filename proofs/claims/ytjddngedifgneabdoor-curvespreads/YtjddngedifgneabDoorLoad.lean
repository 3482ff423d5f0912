/- What load comes to: the number of 32 bytes, in four words. -/
import Derived.Test.YtjddngedifgneabDoorNums
import Derived.Test.YtjddngedifgneabDoorWq
namespace Go.Proofs.YtjddngedifgneabDoor
open Go.RowKit

theorem key_info (f : Nat → Int) : (Tryd.prog.info? 23).map (·.size) = some (row .u8 32 f).length := by rw [row_length]; kernel_rfl
theorem key_info' (f : Nat → Int) : (Tryd.prog.info? 23).map (·.size) = some (row .u8 32 f).toArray.size := by rw [List.size_toArray]; exact key_info f
theorem key_there {w : World} {b : Nat} {f g : Nat → Int} (h : Has w b .u8 32 f) : w.there b 0 (row .u8 32 g).toArray.size := by rw [List.size_toArray, row_length]; exact h.there

theorem cut_key (b k : Nat) (hk : k < 4) (w : World) : (Instr.sliceAt 23 (.pointer (some ⟨b, 0, none⟩)) (some (.int .i64 (8 * (k : Int)))) (some (.int .i64 (8 * (k : Int) + 8))) none).run Tryd.prog w = .ok (.slice (some ⟨b, 8 * k, none⟩) 8 (32 - 8 * k)) w := by
  have hl : Tryd.prog.arrayLen 23 = 32 := by kernel_rfl
  have hs : ∀ w, (sizeOf (Tryd.prog.elem 23)).run Tryd.prog w = .ok 1 w := fun w => by kernel_rfl
  rw [run_sliceAt_array_lh w 23 ⟨b, 0, none⟩ (by kernel_rfl) .i64 .i64 _ _ (by omega) (by omega) (by rw [hl]; omega), hs, hl]
  simp only [Result.andThen, slicedAt]
  have e1 : (8 * (k : Int)).toNat = 8 * k := by omega
  have e2 : (8 * (k : Int) + 8).toNat = 8 * k + 8 := by omega
  rw [e1, e2, if_neg (by omega), Addr.add_mid]
  have e3 : 8 * k + 8 - 8 * k = 8 := by omega
  rw [e3, Nat.zero_add, Nat.mul_one]

structure DInv (a : Nat → Int) (w : World) (k : Nat) (n : Nat → Int) (w' : World) : Prop where
  inn : In W 4 n
  eq : val W n k = val 256 a (8 * k)
  ha : Has w' w.heap.size .u8 32 a
  hr : Has w' (w.heap.size + 1) .u64 4 (fun _ => 0)
  hn : Has w' (w.heap.size + 1 + 1) .u64 4 n
  fr : Fr w 3 w'

theorem pow_word (k j : Nat) : (256 : Int) ^ (8 * k + j) = W ^ k * 256 ^ j := by
  rw [Int.pow_add, Int.pow_mul, show (256 : Int) ^ 8 = W from by decide]

theorem val_cut (M : Int) (f : Nat → Int) (n : Nat) : ∀ k, val M f (n + k) = val M f n + M ^ n * val M (fun j => f (n + j)) k
  | 0 => by simp [val]
  | k + 1 => by
    rw [← Nat.add_assoc]
    simp only [val]
    rw [val_cut M f n k, Int.mul_add, ← Int.mul_assoc, Int.pow_add]
    omega
theorem DInv.drewN {a : Nat → Int} {w : World} {k : Nat} {n : Nat → Int} {w' : World} (h : DInv a w k n w') (q : Nat) : DInv a w k n (w'.drewN q) :=
  ⟨h.inn, h.eq, ⟨h.ha.cell, h.ha.free⟩, ⟨h.hr.cell, h.hr.free⟩, ⟨h.hn.cell, h.hn.free⟩, ⟨below_drewN h.fr.below, h.fr.size⟩⟩
theorem DInv.step {a : Nat → Int} {w : World} {k : Nat} {n : Nat → Int} {w' : World} (h : DInv a w k n w') (ha : In 256 32 a) (hk : k < 4) :
    DInv a w (k + 1) (upd n k (val 256 (fun j => a (8 * k + j)) 8)) (w'.setCell ⟨w.heap.size + 1 + 1, k, none⟩ (.int .u64 (val 256 (fun j => a (8 * k + j)) 8))) := by
  have i := val_in 256 (by decide) (fun j => a (8 * k + j)) 8 (fun j hj => ha (8 * k + j) (by omega))
  refine ⟨h.inn.upd k _ i.1 i.2, ?_, h.ha.set_other _ _ (by simp; omega), h.hr.set_other _ _ (by simp), h.hn.set k hk _, h.fr.set _ _ (by simp; omega)⟩
  have e := val_cut 256 a (8 * k) 8
  have p0 := pow_word k 0
  simp only [Nat.add_zero, Int.pow_zero, Int.mul_one] at p0
  rw [show 8 * (k + 1) = 8 * k + 8 by omega, e, p0]
  simp only [val]
  rw [val_upd _ _ _ _ _ (Nat.le_refl k), upd_same, h.eq]

set_option maxRecDepth 10000 in
set_option maxHeartbeats 4000000 in
theorem load_any (a : Nat → Int) (ha : In 256 32 a) (w : World) :
    Calls Tryd.prog 21 #[(.agg (row .u8 32 (a)).toArray)] w fun e w' => ∃ m : Nat → Int, e = .returned (.agg (row .u64 4 (m)).toArray) ∧ (In W 4 m ∧ val W m 4 = val 256 a 32) ∧ Below w.heap.size w w' := by
  go_enter Tryd.func21, Tryd.ntmps21
  go_wp2
  go_loopw [5] (fun i w' => ∃ (k : Nat) (n : Nat → Int), k ≤ 4 ∧ i = .int .i64 k ∧ DInv a w k n w') (fun i _ => 4 - (intOf i).toNat)
  case atStart => exact ⟨0, fun _ => 0, by omega, rfl, ⟨fun _ _ => ⟨Int.le_refl 0, by decide⟩, rfl, ((Has.new w _ _ _ _ _ rfl).alloc _ (by simp)).alloc _ (by simp; omega), (has_zero _ _ _ (by simp)).alloc _ (by simp), has_zero _ _ _ (by simp), (((Fr.refl w).alloc _).alloc _).alloc _⟩⟩
  case round =>
    obtain ⟨k, n, hk, rfl, hI⟩ := hrel
    by_cases hlt : k < 4
    · have g1 : (0 : Int) ≤ (k : Int) := by omega
      have g2 : (k : Int) < 4 := by omega
      have hcut := cut_key w.heap.size k hlt
      have HS := show Hid _ from fun q => (hI.drewN q).step ha hlt
      have HC := show Hid _ from of_quiet w.heap.size (8 * k) 32 (32 - 8 * k) a (by omega) ha wr hI.ha
      have cn : ∀ q, (wr.drewN q).cell? ⟨w.heap.size + 1 + 1, k, none⟩ = some (.int .u64 (n k)) := fun q => hI.hn.cell k hlt
      have fn : ∀ q, (wr.drewN q).frozen? ⟨w.heap.size + 1 + 1, k, none⟩ = false := fun q => hI.hn.free k hlt
      clear hI
      generalize n k = z at *
      generalize val 256 (fun j => a (8 * k + j)) 8 = v at *
      go_wp2_with fail
      refine Calls.mono HC.out ?_
      rintro e w' ⟨q, rfl, rfl⟩
      have cn' := cn q
      have fn' := fn q
      have HT := show Hid _ from HS.out q
      clear HC HS cn fn
      generalize wr.drewN q = w2 at *
      go_wp2
      go_roundw
      case rel => exact ⟨k + 1, _, by omega, by go_num, HT.out⟩
      case measure => simp [intOf]; omega
    · obtain rfl : k = 4 := by omega
      have hn := hI.hn
      have hz := hI.hr
      go_wp2_with (first | (refine wpList_load_mid rfl 34 _ rfl (w.heap.size + 1 + 1) 0 rfl (row .u64 4 (n)) _ (Has.range (hn)) Tryd.underlying34 rfl (num_info _) ?_) | (refine wpList_store_mid rfl 34 _ _ rfl (w.heap.size + 1) 0 (row .u64 4 (n)).toArray rfl rfl (num_there (hz)) (num_info' _) (all_oneCell_toArray (row_one _ _ _)) ?_))
      exact bodyPost_ret (v := (.agg (row .u64 4 (n)).toArray)) (results_row Tryd.results21 rfl (Has.all hz.there .u64 n).range Tryd.underlying34 rfl (num_info n)) rfl ⟨n, rfl, ⟨hI.inn, hI.eq⟩, (hI.fr.setAll _ (by omega) _).below⟩
end Go.Proofs.YtjddngedifgneabDoor
