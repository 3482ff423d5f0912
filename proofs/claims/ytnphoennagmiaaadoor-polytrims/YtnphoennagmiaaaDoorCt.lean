/- What Trim answers, and the statements' own example bytes. -/
import Derived.Test.YtnphoennagmiaaaDoorCa
import Derived.BigRegion
namespace Go.Proofs.YtnphoennagmiaaaDoor
open Go.RowKit

theorem tag_info (f : Nat → Int) : (Tryd.prog.info? 27).map (·.size) = some (row .u8 16 f).length := by rw [row_length]; kernel_rfl
theorem tag_info' (f : Nat → Int) : (Tryd.prog.info? 27).map (·.size) = some (row .u8 16 f).toArray.size := by rw [List.size_toArray]; exact tag_info f
theorem tag_there {w : World} {b : Nat} {f g : Nat → Int} (h : Has w b .u8 16 f) : w.there b 0 (row .u8 16 g).toArray.size := by rw [List.size_toArray, row_length]; exact h.there
theorem tag_zero (w : World) (t : TypeId) (b : Nat) (hb : b = w.heap.size) : Has (w.alloc (.cells #[.int .u8 0, .int .u8 0, .int .u8 0, .int .u8 0, .int .u8 0, .int .u8 0, .int .u8 0, .int .u8 0, .int .u8 0, .int .u8 0, .int .u8 0, .int .u8 0, .int .u8 0, .int .u8 0, .int .u8 0, .int .u8 0] t)) b .u8 16 (fun _ => 0) := Has.new w .u8 16 (fun _ => 0) t b hb

/-- A number to multiply by, trimmed. -/
def trimT (r : Nat → Int) : Nat → Int := fun j => if j % 4 = 3 then r j % 16 else if j % 4 = 0 ∧ 0 < j then r j / 4 * 4 else r j
theorem trimT_in (r : Nat → Int) (h : In 256 16 r) : In 256 16 (trimT r) := fun j hj => by
  have := h j hj
  unfold trimT
  split
  · omega
  · split
    · omega
    · exact this
theorem trimT_twice (r : Nat → Int) : ∀ j, trimT (trimT r) j = trimT r j := fun j => by
  unfold trimT
  split
  · omega
  · split
    · omega
    · rfl
theorem and_15 : ∀ x : Fin 256, bits BinOp.and IntKind.u8 (x.val : Int) 15 = (x.val : Int) % 16 := by decide +kernel
theorem and_252 : ∀ x : Fin 256, bits BinOp.and IntKind.u8 (x.val : Int) 252 = (x.val : Int) / 4 * 4 := by decide +kernel
theorem and_255 : ∀ x : Fin 256, bits BinOp.and IntKind.u8 (x.val : Int) 255 = (x.val : Int) := by decide +kernel
theorem and15 (x : Int) (h : 0 ≤ x ∧ x < 256) : bits BinOp.and IntKind.u8 x 15 = x % 16 := by
  obtain ⟨n, rfl⟩ := Int.eq_ofNat_of_zero_le h.1
  exact and_15 ⟨n, by omega⟩
theorem and252 (x : Int) (h : 0 ≤ x ∧ x < 256) : bits BinOp.and IntKind.u8 x 252 = x / 4 * 4 := by
  obtain ⟨n, rfl⟩ := Int.eq_ofNat_of_zero_le h.1
  exact and_252 ⟨n, by omega⟩
theorem and255 (x : Int) (h : 0 ≤ x ∧ x < 256) : bits BinOp.and IntKind.u8 x 255 = x := by
  obtain ⟨n, rfl⟩ := Int.eq_ofNat_of_zero_le h.1
  exact and_255 ⟨n, by omega⟩
theorem and_kept (r : Nat → Int) (h : In 256 16 r) (j : Nat) (hj : j < 16) : bits BinOp.and IntKind.u8 (r j) (keptB j) = trimT r j := by
  have hr := h j hj
  by_cases a : j % 4 = 3
  · have e1 : keptB j = 15 := by unfold keptB; rw [if_pos (by omega)]
    have e2 : trimT r j = r j % 16 := by unfold trimT; rw [if_pos a]
    rw [e1, e2, and15 _ hr]
  · by_cases b : j % 4 = 0 ∧ 0 < j
    · have e1 : keptB j = 252 := by unfold keptB; rw [if_neg (by omega), if_pos (by omega)]
      have e2 : trimT r j = r j / 4 * 4 := by unfold trimT; rw [if_neg a, if_pos b]
      rw [e1, e2, and252 _ hr]
    · have e1 : keptB j = 255 := by unfold keptB; rw [if_neg (by omega), if_neg (by omega)]
      have e2 : trimT r j = r j := by unfold trimT; rw [if_neg a, if_neg b]
      rw [e1, e2, and255 _ hr]

/-- Behind k rounds of a loop that writes one byte after the other. -/
structure TInv (r g : Nat → Int) (w : World) (k : Nat) (f : Nat → Int) (w' : World) : Prop where
  done : ∀ j, j < k → f j = g j
  rest : ∀ j, k ≤ j → f j = r j
  ha : Has w' w.heap.size .u8 16 f
  hr : Has w' (w.heap.size + 1) .u8 16 (fun _ => 0)
  fr : Fr w 2 w'
theorem TInv.step {r g : Nat → Int} {w : World} {k : Nat} {f : Nat → Int} {w' : World} (h : TInv r g w k f w') (hk : k < 16) : TInv r g w (k + 1) (upd f k (g k)) (w'.setCell ⟨w.heap.size, k, none⟩ (.int .u8 (g k))) := by
  refine ⟨fun j hj => ?_, fun j hj => ?_, h.ha.set k hk _, h.hr.set_other _ _ (by simp), h.fr.set _ _ (by simp)⟩
  · by_cases e : j = k
    · subst e; rw [upd_same]
    · rw [upd_other _ _ _ _ e]; exact h.done j (by omega)
  · rw [upd_other _ _ _ _ (by omega)]; exact h.rest j (by omega)
theorem TInv.drew {r g : Nat → Int} {w : World} {k : Nat} {f : Nat → Int} {w' : World} (h : TInv r g w k f w') : TInv r g w k f w'.drew := ⟨h.done, h.rest, h.ha.drew, h.hr.drew, h.fr.drew⟩
theorem TInv.skip {r g : Nat → Int} {w : World} {k : Nat} {f : Nat → Int} {w' : World} (h : TInv r g w k f w') (e : g k = r k) : TInv r g w (k + 1) f w' := by
  refine ⟨fun j hj => ?_, fun j hj => h.rest j (by omega), h.ha, h.hr, h.fr⟩
  by_cases x : j = k
  · subst x; rw [h.rest j (Nat.le_refl j), e]
  · exact h.done j (by omega)

set_option maxHeartbeats 2000000 in
theorem ctrim_any (r : Nat → Int) (hr : In 256 16 r) (w : World) (hg : Glob w) :
    Calls Tryd.prog 25 #[(.agg (row .u8 16 (r)).toArray)] w fun e w' => e = .returned (.agg (row .u8 16 (trimT r)).toArray) ∧ Below w.heap.size w w' := by
  go_enter Tryd.func25, Tryd.ntmps25
  go_wp2
  go_loopw [4] (fun i w' => ∃ (k : Nat) (f : Nat → Int), k ≤ 16 ∧ i = .int .i64 k ∧ TInv r (trimT r) w k f w') (fun i _ => 16 - (intOf i).toNat)
  case atStart => exact ⟨0, r, by omega, rfl, ⟨fun j hj => by omega, fun _ _ => rfl, (Has.new w _ _ _ _ _ rfl).alloc _ (by simp), tag_zero _ _ _ (by simp), ((Fr.refl w).alloc _).alloc _⟩⟩
  case round =>
    obtain ⟨k, f, hk, rfl, hI⟩ := hrel
    by_cases hlt : k < 16
    · have hS := (hI.step hlt).drew
      have hb := and_kept r hr k hlt
      rw [← hI.rest k (Nat.le_refl k)] at hb
      rw [← hb] at hS
      have HS := show Hid _ from hS
      have c1 := hI.ha.cell k hlt
      have c2 := (hg.fr hI.fr).kept k hlt
      have f1 := hI.ha.free k hlt
      have g1 : (0 : Int) ≤ (k : Int) := by omega
      have g2 : (k : Int) < 16 := by omega
      clear hI hS hb
      generalize f k = x at *
      generalize keptB k = y at *
      go_wp2
      go_region
      go_wp2
      go_roundw
      case rel => exact ⟨k + 1, _, by omega, by go_num, HS.out⟩
      case measure => simp [intOf]; omega
    · obtain rfl : k = 16 := by omega
      have ha := hI.ha.congr (g := trimT r) (fun j hj => hI.done j hj)
      have hz := hI.hr
      have hB := (hI.fr.setAll (w.heap.size + 1) (by omega) (row .u8 16 (trimT r))).below
      clear hI hlt hk
      go_wp2_with (first | (refine wpList_load_mid rfl 27 _ rfl (w.heap.size) 0 rfl (row .u8 16 (trimT r)) _ (Has.range (ha)) Tryd.underlying27 rfl (tag_info _) ?_) | (refine wpList_store_mid rfl 27 _ _ rfl (w.heap.size + 1) 0 (row .u8 16 (trimT r)).toArray rfl rfl (tag_there (hz)) (tag_info' _) (all_oneCell_toArray (row_one _ _ _)) ?_))
      exact bodyPost_ret (v := (.agg (row .u8 16 (trimT r)).toArray)) (results_row Tryd.results25 rfl (Has.all hz.there .u8 _).range Tryd.underlying27 rfl (tag_info _)) rfl ⟨rfl, hB⟩
end Go.Proofs.YtnphoennagmiaaaDoor
