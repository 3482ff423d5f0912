/- What the statements' own example bytes are. -/
import Derived.Test.YtjddngedifgneabDoorSave
namespace Go.Proofs.YtjddngedifgneabDoor
open Go.RowKit

/-- A first byte, a last one, the others between. -/
def fil (x y z : Int) : Nat → Int := fun j => if j = 31 then z else if j = 0 then x else y
theorem fil_in (x y z : Int) (hx : 0 ≤ x ∧ x < 256) (hy : 0 ≤ y ∧ y < 256) (hz : 0 ≤ z ∧ z < 256) : In 256 32 (fil x y z) := fun j _ => by
  unfold fil; split
  · exact hz
  · split
    · exact hx
    · exact hy

structure UInv (y : Int) (w : World) (k : Nat) (f : Nat → Int) (w' : World) : Prop where
  done : ∀ j, j < k → f j = y
  hr : Has w' w.heap.size .u8 32 (fun _ => 0)
  ha : Has w' (w.heap.size + 1) .u8 32 f
  fr : Fr w 2 w'
theorem UInv.step {y : Int} {w : World} {k : Nat} {f : Nat → Int} {w' : World} (h : UInv y w k f w') (hk : k < 32) : UInv y w (k + 1) (upd f k y) (w'.setCell ⟨w.heap.size + 1, k, none⟩ (.int .u8 y)) := by
  refine ⟨fun j hj => ?_, h.hr.set_other _ _ (by simp), h.ha.set k hk y, h.fr.set _ _ (by simp)⟩
  by_cases e : j = k
  · subst e; rw [upd_same]
  · rw [upd_other _ _ _ _ e]; exact h.done j (by omega)

set_option maxRecDepth 10000 in
set_option maxHeartbeats 2000000 in
theorem filled_any (x y z : Int) (w : World) :
    Calls Tryd.prog 18 #[.int .u8 x, .int .u8 y, .int .u8 z] w fun e w' => e = .returned (.agg (row .u8 32 (fil x y z)).toArray) ∧ Below w.heap.size w w' := by
  have z0 : Has ((w.alloc (.cells #[.int .u8 0, .int .u8 0, .int .u8 0, .int .u8 0, .int .u8 0, .int .u8 0, .int .u8 0, .int .u8 0, .int .u8 0, .int .u8 0, .int .u8 0, .int .u8 0, .int .u8 0, .int .u8 0, .int .u8 0, .int .u8 0, .int .u8 0, .int .u8 0, .int .u8 0, .int .u8 0, .int .u8 0, .int .u8 0, .int .u8 0, .int .u8 0, .int .u8 0, .int .u8 0, .int .u8 0, .int .u8 0, .int .u8 0, .int .u8 0, .int .u8 0, .int .u8 0] 23)).alloc (.cells #[.int .u8 0, .int .u8 0, .int .u8 0, .int .u8 0, .int .u8 0, .int .u8 0, .int .u8 0, .int .u8 0, .int .u8 0, .int .u8 0, .int .u8 0, .int .u8 0, .int .u8 0, .int .u8 0, .int .u8 0, .int .u8 0, .int .u8 0, .int .u8 0, .int .u8 0, .int .u8 0, .int .u8 0, .int .u8 0, .int .u8 0, .int .u8 0, .int .u8 0, .int .u8 0, .int .u8 0, .int .u8 0, .int .u8 0, .int .u8 0, .int .u8 0, .int .u8 0] 23)) w.heap.size .u8 32 (fun _ => 0) := (key_zero _ _ _ rfl).alloc _ (by simp)
  have a0 : Has ((w.alloc (.cells #[.int .u8 0, .int .u8 0, .int .u8 0, .int .u8 0, .int .u8 0, .int .u8 0, .int .u8 0, .int .u8 0, .int .u8 0, .int .u8 0, .int .u8 0, .int .u8 0, .int .u8 0, .int .u8 0, .int .u8 0, .int .u8 0, .int .u8 0, .int .u8 0, .int .u8 0, .int .u8 0, .int .u8 0, .int .u8 0, .int .u8 0, .int .u8 0, .int .u8 0, .int .u8 0, .int .u8 0, .int .u8 0, .int .u8 0, .int .u8 0, .int .u8 0, .int .u8 0] 23)).alloc (.cells #[.int .u8 0, .int .u8 0, .int .u8 0, .int .u8 0, .int .u8 0, .int .u8 0, .int .u8 0, .int .u8 0, .int .u8 0, .int .u8 0, .int .u8 0, .int .u8 0, .int .u8 0, .int .u8 0, .int .u8 0, .int .u8 0, .int .u8 0, .int .u8 0, .int .u8 0, .int .u8 0, .int .u8 0, .int .u8 0, .int .u8 0, .int .u8 0, .int .u8 0, .int .u8 0, .int .u8 0, .int .u8 0, .int .u8 0, .int .u8 0, .int .u8 0, .int .u8 0] 23)) (w.heap.size + 1) .u8 32 (fun _ => 0) := key_zero _ _ _ (by simp)
  have g0 : Fr w 2 ((w.alloc (.cells #[.int .u8 0, .int .u8 0, .int .u8 0, .int .u8 0, .int .u8 0, .int .u8 0, .int .u8 0, .int .u8 0, .int .u8 0, .int .u8 0, .int .u8 0, .int .u8 0, .int .u8 0, .int .u8 0, .int .u8 0, .int .u8 0, .int .u8 0, .int .u8 0, .int .u8 0, .int .u8 0, .int .u8 0, .int .u8 0, .int .u8 0, .int .u8 0, .int .u8 0, .int .u8 0, .int .u8 0, .int .u8 0, .int .u8 0, .int .u8 0, .int .u8 0, .int .u8 0] 23)).alloc (.cells #[.int .u8 0, .int .u8 0, .int .u8 0, .int .u8 0, .int .u8 0, .int .u8 0, .int .u8 0, .int .u8 0, .int .u8 0, .int .u8 0, .int .u8 0, .int .u8 0, .int .u8 0, .int .u8 0, .int .u8 0, .int .u8 0, .int .u8 0, .int .u8 0, .int .u8 0, .int .u8 0, .int .u8 0, .int .u8 0, .int .u8 0, .int .u8 0, .int .u8 0, .int .u8 0, .int .u8 0, .int .u8 0, .int .u8 0, .int .u8 0, .int .u8 0, .int .u8 0] 23)) := ((Fr.refl w).alloc _).alloc _
  go_enter Tryd.func18, Tryd.ntmps18
  have tok : True := trivial
  go_wp2_with (have _t := tok; refine wpList_store_mid rfl 23 _ _ rfl (w.heap.size + 1) 0 (row .u8 32 (fun _ => 0)).toArray rfl rfl (key_there (a0)) (key_info' _) (all_oneCell_toArray (row_one _ _ _)) ?_; clear tok)
  have z1 := z0.setAll_other (w.heap.size + 1) (by omega) 0 (row .u8 32 (fun _ => 0))
  have a1 := Has.all a0.there .u8 (fun _ => 0)
  have g1 := g0.setAll (w.heap.size + 1) (by omega) (row .u8 32 (fun _ => 0))
  clear z0 a0 g0
  go_loopw [8] (fun i w' => ∃ (k : Nat) (f : Nat → Int), k ≤ 32 ∧ i = .int .i64 k ∧ UInv y w k f w') (fun i _ => 32 - (intOf i).toNat)
  case atStart => exact ⟨0, fun _ => 0, by omega, rfl, ⟨fun j hj => by omega, z1, a1, g1⟩⟩
  case round =>
    obtain ⟨k, f, hk, rfl, hI⟩ := hrel
    clear z1 a1 g1
    by_cases hlt : k < 32
    · have hS := hI.step hlt
      have c1 := hI.ha.cell k hlt
      have f1 := hI.ha.free k hlt
      have q1 : (0 : Int) ≤ (k : Int) := by omega
      have q2 : (k : Int) < 32 := by omega
      clear hI
      generalize f k = u at *
      go_wp2
      go_roundw
      case rel => exact ⟨k + 1, _, by omega, by go_num, hS⟩
      case measure => simp [intOf]; omega
    · obtain rfl : k = 32 := by omega
      have c0 := hI.ha.cell 0 (by omega)
      have f0 := hI.ha.free 0 (by omega)
      have c1 := hI.ha.cell 31 (by omega)
      have f1 := hI.ha.free 31 (by omega)
      have h2 := (hI.ha.set 0 (by omega) x).set 31 (by omega) z
      have h3 := h2.congr (g := fil x y z) (fun j hj => by
        unfold fil
        by_cases e : j = 31
        · subst e; rw [upd_same, if_pos rfl]
        · rw [upd_other _ _ _ _ e, if_neg e]
          by_cases e0 : j = 0
          · subst e0; rw [upd_same, if_pos rfl]
          · rw [upd_other _ _ _ _ e0, if_neg e0]; exact hI.done j hj)
      have hz := (hI.hr.set_other ⟨w.heap.size + 1, 0, none⟩ (.int .u8 x) (by simp)).set_other ⟨w.heap.size + 1, 31, none⟩ (.int .u8 z) (by simp)
      have hg := (hI.fr.set ⟨w.heap.size + 1, 0, none⟩ (.int .u8 x) (by simp)).set ⟨w.heap.size + 1, 31, none⟩ (.int .u8 z) (by simp)
      clear hlt hk h2
      generalize f 0 = u0 at *
      generalize f 31 = u1 at *
      go_wp2_with (first | (refine wpList_load_mid rfl 23 _ rfl (w.heap.size + 1) 0 rfl (row .u8 32 (fil x y z)) _ (Has.range (h3)) Tryd.underlying23 rfl (key_info _) ?_) | (refine wpList_store_mid rfl 23 _ _ rfl (w.heap.size) 0 (row .u8 32 (fil x y z)).toArray rfl rfl (key_there (hz)) (key_info' _) (all_oneCell_toArray (row_one _ _ _)) ?_))
      exact bodyPost_ret (v := (.agg (row .u8 32 (fil x y z)).toArray)) (results_row Tryd.results18 rfl (Has.all hz.there .u8 (fil x y z)).range Tryd.underlying23 rfl (key_info (fil x y z))) rfl ⟨rfl, (hg.setAll _ (by omega) _).below⟩
end Go.Proofs.YtjddngedifgneabDoor
