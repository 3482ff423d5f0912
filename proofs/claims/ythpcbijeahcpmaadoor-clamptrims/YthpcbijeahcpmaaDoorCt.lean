/- What Trim answers, and the statements' own example bytes. -/
import Derived.Test.YthpcbijeahcpmaaDoorCa
import Derived.BigRegion
namespace Go.Proofs.YthpcbijeahcpmaaDoor
open Go.RowKit

theorem tag_info (f : Nat → Int) : (Tryd.prog.info? 23).map (·.size) = some (row .u8 16 f).length := by rw [row_length]; kernel_rfl
theorem tag_info' (f : Nat → Int) : (Tryd.prog.info? 23).map (·.size) = some (row .u8 16 f).toArray.size := by rw [List.size_toArray]; exact tag_info f
theorem tag_there {w : World} {b : Nat} {f g : Nat → Int} (h : Has w b .u8 16 f) : w.there b 0 (row .u8 16 g).toArray.size := by rw [List.size_toArray, row_length]; exact h.there
theorem tag_zero (w : World) (t : TypeId) (b : Nat) (hb : b = w.heap.size) : Has (w.alloc (.cells #[.int .u8 0, .int .u8 0, .int .u8 0, .int .u8 0, .int .u8 0, .int .u8 0, .int .u8 0, .int .u8 0, .int .u8 0, .int .u8 0, .int .u8 0, .int .u8 0, .int .u8 0, .int .u8 0, .int .u8 0, .int .u8 0] t)) b .u8 16 (fun _ => 0) := Has.new w .u8 16 (fun _ => 0) t b hb

/-- A number to multiply by, trimmed. -/
def trimT (r : Nat → Int) : Nat → Int := fun j => if j % 4 = 3 then r j % 16 else if j % 4 = 0 ∧ 0 < j then r j / 4 * 4 else r j
theorem trimT_in (r : Nat → Int) (h : In 256 16 r) : In 256 16 (trimT r) := fun j hj => by
  have := h j hj
  unfold trimT
  split
  · omega
  · split
    · omega
    · exact this
theorem trimT_twice (r : Nat → Int) : ∀ j, trimT (trimT r) j = trimT r j := fun j => by
  unfold trimT
  split
  · omega
  · split
    · omega
    · rfl
theorem and_15 : ∀ x : Fin 256, bits BinOp.and IntKind.u8 (x.val : Int) 15 = (x.val : Int) % 16 := by decide +kernel
theorem and_252 : ∀ x : Fin 256, bits BinOp.and IntKind.u8 (x.val : Int) 252 = (x.val : Int) / 4 * 4 := by decide +kernel
theorem and_255 : ∀ x : Fin 256, bits BinOp.and IntKind.u8 (x.val : Int) 255 = (x.val : Int) := by decide +kernel
theorem and15 (x : Int) (h : 0 ≤ x ∧ x < 256) : bits BinOp.and IntKind.u8 x 15 = x % 16 := by
  obtain ⟨n, rfl⟩ := Int.eq_ofNat_of_zero_le h.1
  exact and_15 ⟨n, by omega⟩
theorem and252 (x : Int) (h : 0 ≤ x ∧ x < 256) : bits BinOp.and IntKind.u8 x 252 = x / 4 * 4 := by
  obtain ⟨n, rfl⟩ := Int.eq_ofNat_of_zero_le h.1
  exact and_252 ⟨n, by omega⟩
theorem and255 (x : Int) (h : 0 ≤ x ∧ x < 256) : bits BinOp.and IntKind.u8 x 255 = x := by
  obtain ⟨n, rfl⟩ := Int.eq_ofNat_of_zero_le h.1
  exact and_255 ⟨n, by omega⟩
theorem and_kept (r : Nat → Int) (h : In 256 16 r) (j : Nat) (hj : j < 16) : bits BinOp.and IntKind.u8 (r j) (keptB j) = trimT r j := by
  have hr := h j hj
  by_cases a : j % 4 = 3
  · have e1 : keptB j = 15 := by unfold keptB; rw [if_pos (by omega)]
    have e2 : trimT r j = r j % 16 := by unfold trimT; rw [if_pos a]
    rw [e1, e2, and15 _ hr]
  · by_cases b : j % 4 = 0 ∧ 0 < j
    · have e1 : keptB j = 252 := by unfold keptB; rw [if_neg (by omega), if_pos (by omega)]
      have e2 : trimT r j = r j / 4 * 4 := by unfold trimT; rw [if_neg a, if_pos b]
      rw [e1, e2, and252 _ hr]
    · have e1 : keptB j = 255 := by unfold keptB; rw [if_neg (by omega), if_neg (by omega)]
      have e2 : trimT r j = r j := by unfold trimT; rw [if_neg a, if_neg b]
      rw [e1, e2, and255 _ hr]

/-- Behind k rounds of a loop that writes one byte after the other. -/
structure TInv (r g : Nat → Int) (w : World) (k : Nat) (f : Nat → Int) (w' : World) : Prop where
  done : ∀ j, j < k → f j = g j
  rest : ∀ j, k ≤ j → f j = r j
  ha : Has w' w.heap.size .u8 16 f
  hr : Has w' (w.heap.size + 1) .u8 16 (fun _ => 0)
  fr : Fr w 2 w'
theorem TInv.step {r g : Nat → Int} {w : World} {k : Nat} {f : Nat → Int} {w' : World} (h : TInv r g w k f w') (hk : k < 16) : TInv r g w (k + 1) (upd f k (g k)) (w'.setCell ⟨w.heap.size, k, none⟩ (.int .u8 (g k))) := by
  refine ⟨fun j hj => ?_, fun j hj => ?_, h.ha.set k hk _, h.hr.set_other _ _ (by simp), h.fr.set _ _ (by simp)⟩
  · by_cases e : j = k
    · subst e; rw [upd_same]
    · rw [upd_other _ _ _ _ e]; exact h.done j (by omega)
  · rw [upd_other _ _ _ _ (by omega)]; exact h.rest j (by omega)
theorem TInv.drew {r g : Nat → Int} {w : World} {k : Nat} {f : Nat → Int} {w' : World} (h : TInv r g w k f w') : TInv r g w k f w'.drew := ⟨h.done, h.rest, h.ha.drew, h.hr.drew, h.fr.drew⟩
theorem TInv.skip {r g : Nat → Int} {w : World} {k : Nat} {f : Nat → Int} {w' : World} (h : TInv r g w k f w') (e : g k = r k) : TInv r g w (k + 1) f w' := by
  refine ⟨fun j hj => ?_, fun j hj => h.rest j (by omega), h.ha, h.hr, h.fr⟩
  by_cases x : j = k
  · subst x; rw [h.rest j (Nat.le_refl j), e]
  · exact h.done j (by omega)

set_option maxHeartbeats 2000000 in
theorem ctrim_any (r : Nat → Int) (hr : In 256 16 r) (w : World) (hg : Glob w) :
    Calls Tryd.prog 10 #[(.agg (row .u8 16 (r)).toArray)] w fun e w' => e = .returned (.agg (row .u8 16 (trimT r)).toArray) ∧ Below w.heap.size w w' := by
  go_enter Tryd.func10, Tryd.ntmps10
  go_wp2
  go_loopw [4] (fun i w' => ∃ (k : Nat) (f : Nat → Int), k ≤ 16 ∧ i = .int .i64 k ∧ TInv r (trimT r) w k f w') (fun i _ => 16 - (intOf i).toNat)
  case atStart => exact ⟨0, r, by omega, rfl, ⟨fun j hj => by omega, fun _ _ => rfl, (Has.new w _ _ _ _ _ rfl).alloc _ (by simp), tag_zero _ _ _ (by simp), ((Fr.refl w).alloc _).alloc _⟩⟩
  case round =>
    obtain ⟨k, f, hk, rfl, hI⟩ := hrel
    by_cases hlt : k < 16
    · have hS := (hI.step hlt).drew
      have hb := and_kept r hr k hlt
      rw [← hI.rest k (Nat.le_refl k)] at hb
      rw [← hb] at hS
      have HS := show Hid _ from hS
      have c1 := hI.ha.cell k hlt
      have c2 := (hg.fr hI.fr).kept k hlt
      have f1 := hI.ha.free k hlt
      have g1 : (0 : Int) ≤ (k : Int) := by omega
      have g2 : (k : Int) < 16 := by omega
      clear hI hS hb
      generalize f k = x at *
      generalize keptB k = y at *
      go_wp2
      go_region
      go_wp2
      go_roundw
      case rel => exact ⟨k + 1, _, by omega, by go_num, HS.out⟩
      case measure => simp [intOf]; omega
    · obtain rfl : k = 16 := by omega
      have ha := hI.ha.congr (g := trimT r) (fun j hj => hI.done j hj)
      have hz := hI.hr
      have hB := (hI.fr.setAll (w.heap.size + 1) (by omega) (row .u8 16 (trimT r))).below
      clear hI hlt hk
      go_wp2_with (first | (refine wpList_load_mid rfl 23 _ rfl (w.heap.size) 0 rfl (row .u8 16 (trimT r)) _ (Has.range (ha)) Tryd.underlying23 rfl (tag_info _) ?_) | (refine wpList_store_mid rfl 23 _ _ rfl (w.heap.size + 1) 0 (row .u8 16 (trimT r)).toArray rfl rfl (tag_there (hz)) (tag_info' _) (all_oneCell_toArray (row_one _ _ _)) ?_))
      exact bodyPost_ret (v := (.agg (row .u8 16 (trimT r)).toArray)) (results_row Tryd.results10 rfl (Has.all hz.there .u8 _).range Tryd.underlying23 rfl (tag_info _)) rfl ⟨rfl, hB⟩


structure onesInv (w : World) (k : Nat) (f : Nat → Int) (w' : World) : Prop where
  done : ∀ j, j < k → f j = 255
  hr : Has w' w.heap.size .u8 16 (fun _ => 0)
  ha : Has w' (w.heap.size + 1) .u8 16 f
  fr : Fr w 2 w'
theorem onesInv.step {w : World} {k : Nat} {f : Nat → Int} {w' : World} (h : onesInv w k f w') (hk : k < 16) : onesInv w (k + 1) (upd f k 255) (w'.setCell ⟨w.heap.size + 1, k, none⟩ (.int .u8 255)) := by
  refine ⟨fun j hj => ?_, h.hr.set_other _ _ (by simp), h.ha.set k hk _, h.fr.set _ _ (by simp)⟩
  by_cases e : j = k
  · subst e; rw [upd_same]
  · rw [upd_other _ _ _ _ e]; exact h.done j (by omega)

set_option maxRecDepth 10000 in
set_option maxHeartbeats 2000000 in
theorem ones_any (w : World) :
    Calls Tryd.prog 22 #[] w fun e w' => e = .returned (.agg (row .u8 16 (fun _ => 255)).toArray) ∧ Below w.heap.size w w' := by
  have z0 : Has ((w.alloc (.cells #[.int .u8 0, .int .u8 0, .int .u8 0, .int .u8 0, .int .u8 0, .int .u8 0, .int .u8 0, .int .u8 0, .int .u8 0, .int .u8 0, .int .u8 0, .int .u8 0, .int .u8 0, .int .u8 0, .int .u8 0, .int .u8 0] 23)).alloc (.cells #[.int .u8 0, .int .u8 0, .int .u8 0, .int .u8 0, .int .u8 0, .int .u8 0, .int .u8 0, .int .u8 0, .int .u8 0, .int .u8 0, .int .u8 0, .int .u8 0, .int .u8 0, .int .u8 0, .int .u8 0, .int .u8 0] 23)) w.heap.size .u8 16 (fun _ => 0) := (tag_zero _ _ _ rfl).alloc _ (by simp)
  have a0 : Has ((w.alloc (.cells #[.int .u8 0, .int .u8 0, .int .u8 0, .int .u8 0, .int .u8 0, .int .u8 0, .int .u8 0, .int .u8 0, .int .u8 0, .int .u8 0, .int .u8 0, .int .u8 0, .int .u8 0, .int .u8 0, .int .u8 0, .int .u8 0] 23)).alloc (.cells #[.int .u8 0, .int .u8 0, .int .u8 0, .int .u8 0, .int .u8 0, .int .u8 0, .int .u8 0, .int .u8 0, .int .u8 0, .int .u8 0, .int .u8 0, .int .u8 0, .int .u8 0, .int .u8 0, .int .u8 0, .int .u8 0] 23)) (w.heap.size + 1) .u8 16 (fun _ => 0) := tag_zero _ _ _ (by simp)
  have g0 : Fr w 2 ((w.alloc (.cells #[.int .u8 0, .int .u8 0, .int .u8 0, .int .u8 0, .int .u8 0, .int .u8 0, .int .u8 0, .int .u8 0, .int .u8 0, .int .u8 0, .int .u8 0, .int .u8 0, .int .u8 0, .int .u8 0, .int .u8 0, .int .u8 0] 23)).alloc (.cells #[.int .u8 0, .int .u8 0, .int .u8 0, .int .u8 0, .int .u8 0, .int .u8 0, .int .u8 0, .int .u8 0, .int .u8 0, .int .u8 0, .int .u8 0, .int .u8 0, .int .u8 0, .int .u8 0, .int .u8 0, .int .u8 0] 23)) := ((Fr.refl w).alloc _).alloc _
  go_enter Tryd.func22, Tryd.ntmps22
  have tok : True := trivial
  go_wp2_with (have _t := tok; refine wpList_store_mid rfl 23 _ _ rfl (w.heap.size + 1) 0 (row .u8 16 (fun _ => 0)).toArray rfl rfl (tag_there (a0)) (tag_info' _) (all_oneCell_toArray (row_one _ _ _)) ?_; clear tok)
  have z1 := z0.setAll_other (w.heap.size + 1) (by omega) 0 (row .u8 16 (fun _ => 0))
  have a1 := Has.all a0.there .u8 (fun _ => 0)
  have g1 := g0.setAll (w.heap.size + 1) (by omega) (row .u8 16 (fun _ => 0))
  clear z0 a0 g0
  go_loopw [2] (fun i w' => ∃ (k : Nat) (f : Nat → Int), k ≤ 16 ∧ i = .int .i64 k ∧ onesInv w k f w') (fun i _ => 16 - (intOf i).toNat)
  case atStart => exact ⟨0, fun _ => 0, by omega, rfl, ⟨fun j hj => by omega, z1, a1, g1⟩⟩
  case round =>
    obtain ⟨k, f, hk, rfl, hI⟩ := hrel
    clear z1 a1 g1
    by_cases hlt : k < 16
    · have hS := hI.step hlt
      have c1 := hI.ha.cell k hlt
      have f1 := hI.ha.free k hlt
      have q1 : (0 : Int) ≤ (k : Int) := by omega
      have q2 : (k : Int) < 16 := by omega
      clear hI
      generalize f k = u at *
      go_wp2
      go_roundw
      case rel => exact ⟨k + 1, _, by omega, by go_num, hS⟩
      case measure => simp [intOf]; omega
    · obtain rfl : k = 16 := by omega
      have h3 := hI.ha.congr (g := fun _ => 255) (fun j hj => hI.done j hj)
      have hz := hI.hr
      have hB := (hI.fr.setAll w.heap.size (Nat.le_refl _) (row .u8 16 (fun _ => 255))).below
      clear hlt hk hI
      go_wp2_with (first | (refine wpList_load_mid rfl 23 _ rfl (w.heap.size + 1) 0 rfl (row .u8 16 (fun _ => 255)) _ (Has.range (h3)) Tryd.underlying23 rfl (tag_info _) ?_) | (refine wpList_store_mid rfl 23 _ _ rfl (w.heap.size) 0 (row .u8 16 (fun _ => 255)).toArray rfl rfl (tag_there (hz)) (tag_info' _) (all_oneCell_toArray (row_one _ _ _)) ?_))
      exact bodyPost_ret (v := (.agg (row .u8 16 (fun _ => 255)).toArray)) (results_row Tryd.results22 rfl (Has.all hz.there .u8 _).range Tryd.underlying23 rfl (tag_info _)) rfl ⟨rfl, hB⟩


/-- A first byte, a last one, the others ff. -/
def fulB (x z : Int) : Nat → Int := fun j => if j = 16 then z else if j = 0 then x else 255
theorem fulB_in (x z : Int) (hx : 0 ≤ x ∧ x < 256) (hz : 0 ≤ z ∧ z < 256) : In 256 17 (fulB x z) := fun j _ => by
  unfold fulB; split
  · exact hz
  · split
    · exact hx
    · omega

structure fullInv (w : World) (k : Nat) (f : Nat → Int) (w' : World) : Prop where
  done : ∀ j, j < k → f j = 255
  hr : Has w' w.heap.size .u8 17 (fun _ => 0)
  ha : Has w' (w.heap.size + 1) .u8 17 f
  fr : Fr w 2 w'
theorem fullInv.step {w : World} {k : Nat} {f : Nat → Int} {w' : World} (h : fullInv w k f w') (hk : k < 17) : fullInv w (k + 1) (upd f k 255) (w'.setCell ⟨w.heap.size + 1, k, none⟩ (.int .u8 255)) := by
  refine ⟨fun j hj => ?_, h.hr.set_other _ _ (by simp), h.ha.set k hk _, h.fr.set _ _ (by simp)⟩
  by_cases e : j = k
  · subst e; rw [upd_same]
  · rw [upd_other _ _ _ _ e]; exact h.done j (by omega)

set_option maxRecDepth 10000 in
set_option maxHeartbeats 2000000 in
theorem full_any (x z : Int) (w : World) :
    Calls Tryd.prog 23 #[.int .u8 x, .int .u8 z] w fun e w' => e = .returned (.agg (row .u8 17 (fulB x z)).toArray) ∧ Below w.heap.size w w' := by
  have z0 : Has ((w.alloc (.cells #[.int .u8 0, .int .u8 0, .int .u8 0, .int .u8 0, .int .u8 0, .int .u8 0, .int .u8 0, .int .u8 0, .int .u8 0, .int .u8 0, .int .u8 0, .int .u8 0, .int .u8 0, .int .u8 0, .int .u8 0, .int .u8 0, .int .u8 0] 28)).alloc (.cells #[.int .u8 0, .int .u8 0, .int .u8 0, .int .u8 0, .int .u8 0, .int .u8 0, .int .u8 0, .int .u8 0, .int .u8 0, .int .u8 0, .int .u8 0, .int .u8 0, .int .u8 0, .int .u8 0, .int .u8 0, .int .u8 0, .int .u8 0] 28)) w.heap.size .u8 17 (fun _ => 0) := (big_zero _ _ _ rfl).alloc _ (by simp)
  have a0 : Has ((w.alloc (.cells #[.int .u8 0, .int .u8 0, .int .u8 0, .int .u8 0, .int .u8 0, .int .u8 0, .int .u8 0, .int .u8 0, .int .u8 0, .int .u8 0, .int .u8 0, .int .u8 0, .int .u8 0, .int .u8 0, .int .u8 0, .int .u8 0, .int .u8 0] 28)).alloc (.cells #[.int .u8 0, .int .u8 0, .int .u8 0, .int .u8 0, .int .u8 0, .int .u8 0, .int .u8 0, .int .u8 0, .int .u8 0, .int .u8 0, .int .u8 0, .int .u8 0, .int .u8 0, .int .u8 0, .int .u8 0, .int .u8 0, .int .u8 0] 28)) (w.heap.size + 1) .u8 17 (fun _ => 0) := big_zero _ _ _ (by simp)
  have g0 : Fr w 2 ((w.alloc (.cells #[.int .u8 0, .int .u8 0, .int .u8 0, .int .u8 0, .int .u8 0, .int .u8 0, .int .u8 0, .int .u8 0, .int .u8 0, .int .u8 0, .int .u8 0, .int .u8 0, .int .u8 0, .int .u8 0, .int .u8 0, .int .u8 0, .int .u8 0] 28)).alloc (.cells #[.int .u8 0, .int .u8 0, .int .u8 0, .int .u8 0, .int .u8 0, .int .u8 0, .int .u8 0, .int .u8 0, .int .u8 0, .int .u8 0, .int .u8 0, .int .u8 0, .int .u8 0, .int .u8 0, .int .u8 0, .int .u8 0, .int .u8 0] 28)) := ((Fr.refl w).alloc _).alloc _
  go_enter Tryd.func23, Tryd.ntmps23
  have tok : True := trivial
  go_wp2_with (have _t := tok; refine wpList_store_mid rfl 28 _ _ rfl (w.heap.size + 1) 0 (row .u8 17 (fun _ => 0)).toArray rfl rfl (big_there (a0)) (big_info' _) (all_oneCell_toArray (row_one _ _ _)) ?_; clear tok)
  have z1 := z0.setAll_other (w.heap.size + 1) (by omega) 0 (row .u8 17 (fun _ => 0))
  have a1 := Has.all a0.there .u8 (fun _ => 0)
  have g1 := g0.setAll (w.heap.size + 1) (by omega) (row .u8 17 (fun _ => 0))
  clear z0 a0 g0
  go_loopw [6] (fun i w' => ∃ (k : Nat) (f : Nat → Int), k ≤ 17 ∧ i = .int .i64 k ∧ fullInv w k f w') (fun i _ => 17 - (intOf i).toNat)
  case atStart => exact ⟨0, fun _ => 0, by omega, rfl, ⟨fun j hj => by omega, z1, a1, g1⟩⟩
  case round =>
    obtain ⟨k, f, hk, rfl, hI⟩ := hrel
    clear z1 a1 g1
    by_cases hlt : k < 17
    · have hS := hI.step hlt
      have c1 := hI.ha.cell k hlt
      have f1 := hI.ha.free k hlt
      have q1 : (0 : Int) ≤ (k : Int) := by omega
      have q2 : (k : Int) < 17 := by omega
      clear hI
      generalize f k = u at *
      go_wp2
      go_roundw
      case rel => exact ⟨k + 1, _, by omega, by go_num, hS⟩
      case measure => simp [intOf]; omega
    · obtain rfl : k = 17 := by omega
      have c0 := hI.ha.cell 0 (by omega)
      have f0 := hI.ha.free 0 (by omega)
      have c1 := hI.ha.cell 16 (by omega)
      have f1 := hI.ha.free 16 (by omega)
      have h2 := (hI.ha.set 0 (by omega) x).set 16 (by omega) z
      have h3 := h2.congr (g := fulB x z) (fun j hj => by
        unfold fulB
        by_cases e : j = 16
        · subst e; rw [upd_same, if_pos rfl]
        · rw [upd_other _ _ _ _ e, if_neg e]
          by_cases e0 : j = 0
          · subst e0; rw [upd_same, if_pos rfl]
          · rw [upd_other _ _ _ _ e0, if_neg e0]; exact hI.done j hj)
      have hz := (hI.hr.set_other ⟨w.heap.size + 1, 0, none⟩ (.int .u8 x) (by simp)).set_other ⟨w.heap.size + 1, 16, none⟩ (.int .u8 z) (by simp)
      have hg := (hI.fr.set ⟨w.heap.size + 1, 0, none⟩ (.int .u8 x) (by simp)).set ⟨w.heap.size + 1, 16, none⟩ (.int .u8 z) (by simp)
      clear hlt hk h2 hI
      generalize f 0 = u0 at *
      generalize f 16 = u1 at *
      go_wp2_with (first | (refine wpList_load_mid rfl 28 _ rfl (w.heap.size + 1) 0 rfl (row .u8 17 (fulB x z)) _ (Has.range (h3)) Tryd.underlying28 rfl (big_info _) ?_) | (refine wpList_store_mid rfl 28 _ _ rfl (w.heap.size) 0 (row .u8 17 (fulB x z)).toArray rfl rfl (big_there (hz)) (big_info' _) (all_oneCell_toArray (row_one _ _ _)) ?_))
      exact bodyPost_ret (v := (.agg (row .u8 17 (fulB x z)).toArray)) (results_row Tryd.results23 rfl (Has.all hz.there .u8 _).range Tryd.underlying28 rfl (big_info _)) rfl ⟨rfl, (hg.setAll _ (by omega) _).below⟩
end Go.Proofs.YthpcbijeahcpmaaDoor
