/- What the document's own Trim and Block answer. -/
import Derived.Test.YtnphoennagmiaaaDoorCb
namespace Go.Proofs.YtnphoennagmiaaaDoor
open Go.RowKit

set_option maxHeartbeats 4000000 in
theorem refTrim_any (r : Nat → Int) (hr : In 256 16 r) (w : World) :
    Calls Tryd.prog 12 #[(.agg (row .u8 16 (r)).toArray)] w fun e w' => e = .returned (.agg (row .u8 16 (trimT r)).toArray) ∧ Below w.heap.size w w' := by
  go_enter Tryd.func12, Tryd.ntmps12
  go_wp2
  go_loopw [3] (fun i w' => ∃ (k : Nat) (f : Nat → Int), k ≤ 16 ∧ i = .int .i64 k ∧ TInv r (trimT r) w k f w') (fun i _ => 16 - (intOf i).toNat)
  case atStart => exact ⟨0, r, by omega, rfl, ⟨fun j hj => by omega, fun _ _ => rfl, (Has.new w _ _ _ _ _ rfl).alloc _ (by simp), tag_zero _ _ _ (by simp), ((Fr.refl w).alloc _).alloc _⟩⟩
  case round =>
    obtain ⟨k, f, hk, rfl, hI⟩ := hrel
    by_cases hlt : k < 16
    · have hx := hr k hlt
      have ef := hI.rest k (Nat.le_refl k)
      have c1 := hI.ha.cell k hlt
      have f1 := hI.ha.free k hlt
      have g1 : (0 : Int) ≤ (k : Int) := by omega
      have g2 : (k : Int) < 16 := by omega
      by_cases h3 : k % 4 = 3
      · have e2 : trimT r k = r k % 16 := by unfold trimT; rw [if_pos h3]
        have hb := and15 (r k) hx
        have hS := hI.step hlt
        rw [e2] at hS
        rw [ef] at c1
        have HS := show Hid _ from hS
        have t1 : (k : Int) % 4 = 3 := by omega
        clear hI hS e2 ef
        generalize r k = x at *
        go_wp2
        go_roundw
        case rel => exact ⟨k + 1, _, by omega, by go_num, HS.out⟩
        case measure => simp [intOf]; omega
      · by_cases h0 : k % 4 = 0 ∧ 0 < k
        · have e2 : trimT r k = r k / 4 * 4 := by unfold trimT; rw [if_neg h3, if_pos h0]
          have hb := and252 (r k) hx
          have hS := hI.step hlt
          rw [e2] at hS
          rw [ef] at c1
          have HS := show Hid _ from hS
          have t1 : (k : Int) % 4 = 0 := by omega
          have t2 : (k : Int) > 0 := by omega
          clear hI hS e2 ef
          generalize r k = x at *
          go_wp2
          go_roundw
          case rel => exact ⟨k + 1, _, by omega, by go_num, HS.out⟩
          case measure => simp [intOf]; omega
        · have e2 : trimT r k = r k := by unfold trimT; rw [if_neg h3, if_neg h0]
          have HS := show Hid _ from hI.skip e2
          clear hI e2 ef c1 f1
          by_cases hz : k = 0
          · subst hz
            go_wp2
            go_roundw
            case rel => exact ⟨1, _, by omega, by go_num, HS.out⟩
            case measure => simp [intOf]
          · have t1 : (k : Int) % 4 ≠ 3 := by omega
            have t2 : (k : Int) % 4 ≠ 0 := by omega
            have t3 : ((k : Int) % 4 == 3) = false := by simp [t1]
            have t4 : ((k : Int) % 4 == 0) = false := by simp [t2]
            clear t1 t2
            go_wp2
            go_roundw
            case rel => exact ⟨k + 1, _, by omega, by go_num, HS.out⟩
            case measure => simp [intOf]; omega
    · obtain rfl : k = 16 := by omega
      have ha := hI.ha.congr (g := trimT r) (fun j hj => hI.done j hj)
      have hz := hI.hr
      have hB := (hI.fr.setAll (w.heap.size + 1) (by omega) (row .u8 16 (trimT r))).below
      clear hI hlt hk
      go_wp2_with (first | (refine wpList_load_mid rfl 27 _ rfl (w.heap.size) 0 rfl (row .u8 16 (trimT r)) _ (Has.range (ha)) Tryd.underlying27 rfl (tag_info _) ?_) | (refine wpList_store_mid rfl 27 _ _ rfl (w.heap.size + 1) 0 (row .u8 16 (trimT r)).toArray rfl rfl (tag_there (hz)) (tag_info' _) (all_oneCell_toArray (row_one _ _ _)) ?_))
      exact bodyPost_ret (v := (.agg (row .u8 16 (trimT r)).toArray)) (results_row Tryd.results12 rfl (Has.all hz.there .u8 _).range Tryd.underlying27 rfl (tag_info _)) rfl ⟨rfl, hB⟩
end Go.Proofs.YtnphoennagmiaaaDoor
