/- What the statements' own reader of hexadecimal digits answers. -/
import Derived.Test.YthephehecapmhabDoorShared
namespace Go.Proofs.YthephehecapmhabDoor
open Go.RowKit

/-- A digit's number, as the reader reckons it. -/
def hexd (x : Int) : Int := if 97 ≤ x then x - 97 + 10 else x - 48
/-- A text's byte; beyond its end 0. -/
def chr (s : ByteArray) (i : Nat) : Int := if h : i < s.size then (s[i].toNat : Int) else 0
/-- The bytes behind so many digits. -/
def kfun (s : ByteArray) : Nat → Nat → Int
  | 0 => fun _ => 0
  | i + 1 => upd (kfun s i) (i / 2) ((kfun s i (i / 2) * 16 + hexd (chr s i)) % 256)

theorem kfun_in (s : ByteArray) : ∀ k, In 256 32 (kfun s k)
  | 0 => fun _ _ => ⟨Int.le_refl 0, (by decide : (0 : Int) < 256)⟩
  | k + 1 => (kfun_in s k).upd _ _ (by omega) (by omega)
structure HxInv (s : ByteArray) (w : World) (k : Nat) (w' : World) : Prop where
  hr : Has w' w.heap.size .u8 32 (fun _ => 0)
  ha : Has w' (w.heap.size + 1) .u8 32 (kfun s k)
  fr : Fr w 2 w'
theorem HxInv.step {s : ByteArray} {w : World} {k : Nat} {w' : World} (h : HxInv s w k w') (hk : k < 64) (x : Int) (hx : x = (kfun s k (k / 2) * 16 + hexd (chr s k)) % 256) : HxInv s w (k + 1) (w'.setCell ⟨w.heap.size + 1, k / 2, none⟩ (.int .u8 x)) := by
  subst hx
  exact ⟨h.hr.set_other _ _ (by simp), h.ha.set _ (by omega) _, h.fr.set _ _ (by simp)⟩

set_option maxRecDepth 10000 in
set_option maxHeartbeats 4000000 in
theorem key_any (s : ByteArray) (hs : s.size = 64) (w : World) :
    Calls Tryd.prog 11 #[.string s] w fun e w' => e = .returned (.agg (row .u8 32 (kfun s 64)).toArray) ∧ Below w.heap.size w w' := by
  have z0 : Has ((w.alloc (.cells #[.int .u8 0, .int .u8 0, .int .u8 0, .int .u8 0, .int .u8 0, .int .u8 0, .int .u8 0, .int .u8 0, .int .u8 0, .int .u8 0, .int .u8 0, .int .u8 0, .int .u8 0, .int .u8 0, .int .u8 0, .int .u8 0, .int .u8 0, .int .u8 0, .int .u8 0, .int .u8 0, .int .u8 0, .int .u8 0, .int .u8 0, .int .u8 0, .int .u8 0, .int .u8 0, .int .u8 0, .int .u8 0, .int .u8 0, .int .u8 0, .int .u8 0, .int .u8 0] 23)).alloc (.cells #[.int .u8 0, .int .u8 0, .int .u8 0, .int .u8 0, .int .u8 0, .int .u8 0, .int .u8 0, .int .u8 0, .int .u8 0, .int .u8 0, .int .u8 0, .int .u8 0, .int .u8 0, .int .u8 0, .int .u8 0, .int .u8 0, .int .u8 0, .int .u8 0, .int .u8 0, .int .u8 0, .int .u8 0, .int .u8 0, .int .u8 0, .int .u8 0, .int .u8 0, .int .u8 0, .int .u8 0, .int .u8 0, .int .u8 0, .int .u8 0, .int .u8 0, .int .u8 0] 23)) w.heap.size .u8 32 (fun _ => 0) := (key_zero _ _ _ rfl).alloc _ (by simp)
  have a0 : Has ((w.alloc (.cells #[.int .u8 0, .int .u8 0, .int .u8 0, .int .u8 0, .int .u8 0, .int .u8 0, .int .u8 0, .int .u8 0, .int .u8 0, .int .u8 0, .int .u8 0, .int .u8 0, .int .u8 0, .int .u8 0, .int .u8 0, .int .u8 0, .int .u8 0, .int .u8 0, .int .u8 0, .int .u8 0, .int .u8 0, .int .u8 0, .int .u8 0, .int .u8 0, .int .u8 0, .int .u8 0, .int .u8 0, .int .u8 0, .int .u8 0, .int .u8 0, .int .u8 0, .int .u8 0] 23)).alloc (.cells #[.int .u8 0, .int .u8 0, .int .u8 0, .int .u8 0, .int .u8 0, .int .u8 0, .int .u8 0, .int .u8 0, .int .u8 0, .int .u8 0, .int .u8 0, .int .u8 0, .int .u8 0, .int .u8 0, .int .u8 0, .int .u8 0, .int .u8 0, .int .u8 0, .int .u8 0, .int .u8 0, .int .u8 0, .int .u8 0, .int .u8 0, .int .u8 0, .int .u8 0, .int .u8 0, .int .u8 0, .int .u8 0, .int .u8 0, .int .u8 0, .int .u8 0, .int .u8 0] 23)) (w.heap.size + 1) .u8 32 (fun _ => 0) := key_zero _ _ _ (by simp)
  have g0 : Fr w 2 ((w.alloc (.cells #[.int .u8 0, .int .u8 0, .int .u8 0, .int .u8 0, .int .u8 0, .int .u8 0, .int .u8 0, .int .u8 0, .int .u8 0, .int .u8 0, .int .u8 0, .int .u8 0, .int .u8 0, .int .u8 0, .int .u8 0, .int .u8 0, .int .u8 0, .int .u8 0, .int .u8 0, .int .u8 0, .int .u8 0, .int .u8 0, .int .u8 0, .int .u8 0, .int .u8 0, .int .u8 0, .int .u8 0, .int .u8 0, .int .u8 0, .int .u8 0, .int .u8 0, .int .u8 0] 23)).alloc (.cells #[.int .u8 0, .int .u8 0, .int .u8 0, .int .u8 0, .int .u8 0, .int .u8 0, .int .u8 0, .int .u8 0, .int .u8 0, .int .u8 0, .int .u8 0, .int .u8 0, .int .u8 0, .int .u8 0, .int .u8 0, .int .u8 0, .int .u8 0, .int .u8 0, .int .u8 0, .int .u8 0, .int .u8 0, .int .u8 0, .int .u8 0, .int .u8 0, .int .u8 0, .int .u8 0, .int .u8 0, .int .u8 0, .int .u8 0, .int .u8 0, .int .u8 0, .int .u8 0] 23)) := ((Fr.refl w).alloc _).alloc _
  go_enter Tryd.func11, Tryd.ntmps11
  have tok : True := trivial
  go_wp2_with (have _t := tok; refine wpList_store_mid rfl 23 _ _ rfl (w.heap.size + 1) 0 (row .u8 32 (fun _ => 0)).toArray rfl rfl (key_there (a0)) (key_info' _) (all_oneCell_toArray (row_one _ _ _)) ?_; clear tok)
  have z1 := z0.setAll_other (w.heap.size + 1) (by omega) 0 (row .u8 32 (fun _ => 0))
  have a1 := Has.all a0.there .u8 (fun _ => 0)
  have g1 := g0.setAll (w.heap.size + 1) (by omega) (row .u8 32 (fun _ => 0))
  clear z0 a0 g0
  go_loopw [4] (fun i w' => ∃ (t : Nat), t ≤ 64 ∧ i = .int .i64 t ∧ HxInv s w t w') (fun i _ => 64 - (intOf i).toNat)
  case atStart => exact ⟨0, by omega, rfl, ⟨z1, a1, g1⟩⟩
  case round =>
    obtain ⟨t, hk, rfl, hI⟩ := hrel
    clear z1 a1 g1
    by_cases hlt : t < 64
    · have c1 := hI.ha.cell (t / 2) (by omega)
      have f1 := hI.ha.free (t / 2) (by omega)
      have hc : chr s t = (s[t]'(by omega)).toNat := by unfold chr; rw [dif_pos (by omega)]
      have hs' : (s.size : Int) = 64 := by omega
      by_cases h97 : 97 ≤ ((s[t]'(by omega)).toNat : Int)
      · go_wp2
        refine ⟨⟨t + 1, by omega, by go_num, hI.step hlt _ ?_⟩, by simp [intOf]; omega⟩
        rw [hc]; unfold hexd; rw [if_pos h97]
      · go_wp2
        refine ⟨⟨t + 1, by omega, by go_num, hI.step hlt _ ?_⟩, by simp [intOf]; omega⟩
        rw [hc]; unfold hexd; rw [if_neg h97]
    · obtain rfl : t = 64 := by omega
      have hA := hI.ha
      have hz := hI.hr
      have hL := (hI.fr.setAll w.heap.size (by omega) (row .u8 32 (kfun s 64))).below
      clear hlt hk hI
      go_wp2_with (first | (refine wpList_load_mid rfl 23 _ rfl (w.heap.size + 1) 0 rfl (row .u8 32 (kfun s 64)) _ (Has.range (hA)) Tryd.underlying23 rfl (key_info _) ?_) | (refine wpList_store_mid rfl 23 _ _ rfl (w.heap.size) 0 (row .u8 32 (kfun s 64)).toArray rfl rfl (key_there (hz)) (key_info' _) (all_oneCell_toArray (row_one _ _ _)) ?_))
      exact bodyPost_ret (v := (.agg (row .u8 32 (kfun s 64)).toArray)) (results_row Tryd.results11 rfl (Has.all hz.there .u8 (kfun s 64)).range Tryd.underlying23 rfl (key_info _)) rfl ⟨rfl, hL⟩
end Go.Proofs.YthephehecapmhabDoor
