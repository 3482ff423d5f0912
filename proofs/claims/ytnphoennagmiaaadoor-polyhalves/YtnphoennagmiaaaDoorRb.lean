/- What the document's own Block answers. -/
import Derived.Test.YtnphoennagmiaaaDoorCb
namespace Go.Proofs.YtnphoennagmiaaaDoor
open Go.RowKit

set_option maxRecDepth 10000 in
set_option maxHeartbeats 2000000 in
theorem refBlock_long (sp : Option Addr) (len cap : Nat) (z : Nat → Int) (hlen : 16 < len) (w : World) :
    Calls Tryd.prog 13 #[.slice sp len cap] w fun e w' => e = .returned (.tuple #[(.agg (row .u8 17 (blk len z)).toArray), .int .i64 (blkE len)]) ∧ Below w.heap.size w w' := by
  have eb : (row .u8 17 (blk len z)) = row .u8 17 (fun _ => 0) := row_congr _ _ fun j _ => by unfold blk; rw [if_neg (by omega)]
  have ee : blkE len = 2 := by unfold blkE; rw [if_neg (by omega)]
  rw [eb, ee]
  have z0 : Has ((w.alloc (.cells #[.int .u8 0, .int .u8 0, .int .u8 0, .int .u8 0, .int .u8 0, .int .u8 0, .int .u8 0, .int .u8 0, .int .u8 0, .int .u8 0, .int .u8 0, .int .u8 0, .int .u8 0, .int .u8 0, .int .u8 0, .int .u8 0, .int .u8 0] 33)).alloc (.cells #[.int .u8 0, .int .u8 0, .int .u8 0, .int .u8 0, .int .u8 0, .int .u8 0, .int .u8 0, .int .u8 0, .int .u8 0, .int .u8 0, .int .u8 0, .int .u8 0, .int .u8 0, .int .u8 0, .int .u8 0, .int .u8 0, .int .u8 0] 33)) w.heap.size .u8 17 (fun _ => 0) := (big_zero _ _ _ rfl).alloc _ (by simp)
  have o0 : Has ((w.alloc (.cells #[.int .u8 0, .int .u8 0, .int .u8 0, .int .u8 0, .int .u8 0, .int .u8 0, .int .u8 0, .int .u8 0, .int .u8 0, .int .u8 0, .int .u8 0, .int .u8 0, .int .u8 0, .int .u8 0, .int .u8 0, .int .u8 0, .int .u8 0] 33)).alloc (.cells #[.int .u8 0, .int .u8 0, .int .u8 0, .int .u8 0, .int .u8 0, .int .u8 0, .int .u8 0, .int .u8 0, .int .u8 0, .int .u8 0, .int .u8 0, .int .u8 0, .int .u8 0, .int .u8 0, .int .u8 0, .int .u8 0, .int .u8 0] 33)) (w.heap.size + 1) .u8 17 (fun _ => 0) := big_zero _ _ _ (by simp)
  have g0 : Fr w 2 ((w.alloc (.cells #[.int .u8 0, .int .u8 0, .int .u8 0, .int .u8 0, .int .u8 0, .int .u8 0, .int .u8 0, .int .u8 0, .int .u8 0, .int .u8 0, .int .u8 0, .int .u8 0, .int .u8 0, .int .u8 0, .int .u8 0, .int .u8 0, .int .u8 0] 33)).alloc (.cells #[.int .u8 0, .int .u8 0, .int .u8 0, .int .u8 0, .int .u8 0, .int .u8 0, .int .u8 0, .int .u8 0, .int .u8 0, .int .u8 0, .int .u8 0, .int .u8 0, .int .u8 0, .int .u8 0, .int .u8 0, .int .u8 0, .int .u8 0] 33)) := ((Fr.refl w).alloc _).alloc _
  have z1 := z0.setAll_other (w.heap.size + 1) (by omega) 0 (row .u8 17 (fun _ => 0))
  have o1 := Has.all o0.there .u8 (fun _ => 0)
  have g1 := g0.setAll (w.heap.size + 1) (by omega) (row .u8 17 (fun _ => 0))
  have hB := (g1.setAll w.heap.size (Nat.le_refl _) (row .u8 17 (fun _ => 0))).below
  have hl : (len : Int) > 16 := by omega
  clear eb ee g0 g1 hlen z0
  go_enter Tryd.func13, Tryd.ntmps13
  have tok : True := trivial
  go_upto_region 2 with (have _t := tok; refine wpList_store_mid rfl 33 _ _ rfl (w.heap.size + 1) 0 (row .u8 17 (fun _ => 0)).toArray rfl rfl (big_there (o0)) (big_info' _) (all_oneCell_toArray (row_one _ _ _)) ?_; clear tok)
  generalize (((w.alloc (.cells #[.int .u8 0, .int .u8 0, .int .u8 0, .int .u8 0, .int .u8 0, .int .u8 0, .int .u8 0, .int .u8 0, .int .u8 0, .int .u8 0, .int .u8 0, .int .u8 0, .int .u8 0, .int .u8 0, .int .u8 0, .int .u8 0, .int .u8 0] 33)).alloc (.cells #[.int .u8 0, .int .u8 0, .int .u8 0, .int .u8 0, .int .u8 0, .int .u8 0, .int .u8 0, .int .u8 0, .int .u8 0, .int .u8 0, .int .u8 0, .int .u8 0, .int .u8 0, .int .u8 0, .int .u8 0, .int .u8 0, .int .u8 0] 33)).setCells (w.heap.size + 1) 0 (row .u8 17 (fun _ => 0))) = w2 at *
  clear o0
  go_wp2_with (first | (refine wpList_load_mid rfl 33 _ rfl (w.heap.size + 1) 0 rfl (row .u8 17 (fun _ => 0)) _ (Has.range (o1)) Tryd.underlying33 rfl (big_info _) ?_) | (refine wpList_store_mid rfl 33 _ _ rfl (w.heap.size) 0 (row .u8 17 (fun _ => 0)).toArray rfl rfl (big_there (z1)) (big_info' _) (all_oneCell_toArray (row_one _ _ _)) ?_))
  exact bodyPost_ret (v := .tuple #[(.agg (row .u8 17 (fun _ => 0)).toArray), .int .i64 2]) (results_row_tmp Tryd.results13 rfl rfl (Has.all z1.there .u8 _).range Tryd.underlying33 rfl (big_info _)) rfl ⟨rfl, hB⟩

/-- Behind k rounds of copying byte by byte. -/
structure BI (sp : Option Addr) (len : Nat) (z : Nat → Int) (w : World) (k : Nat) (f : Nat → Int) (w' : World) : Prop where
  done : ∀ j, j < k → f j = z j
  rest : ∀ j, k ≤ j → f j = 0
  src : Src w' sp len z
  ho : Has w' (w.heap.size + 1) .u8 17 f
  hr : Has w' w.heap.size .u8 17 (fun _ => 0)
  fr : Fr w 2 w'
theorem BI.step {sp : Option Addr} {len : Nat} {z : Nat → Int} {w : World} {k : Nat} {f : Nat → Int} {w' : World} (h : BI sp len z w k f w') (hk : k < 17) (hs : Src w sp len z) : BI sp len z w (k + 1) (upd f k (z k)) (w'.setCell ⟨w.heap.size + 1, k, none⟩ (.int .u8 (z k))) := by
  have hf := h.fr.set ⟨w.heap.size + 1, k, none⟩ (.int .u8 (z k)) (by simp)
  refine ⟨fun j hj => ?_, fun j hj => ?_, hs.below hf.below (Nat.le_refl _), h.ho.set k hk _, h.hr.set_other _ _ (by simp), hf⟩
  · by_cases e : j = k
    · subst e; rw [upd_same]
    · rw [upd_other _ _ _ _ e]; exact h.done j (by omega)
  · rw [upd_other _ _ _ _ (by omega)]; exact h.rest j (by omega)

set_option maxRecDepth 10000 in
set_option maxHeartbeats 2000000 in
theorem refBlock_short (sp : Option Addr) (len cap : Nat) (z : Nat → Int) (hlen : len ≤ 16) (w : World) (hs : Src w sp len z) :
    Calls Tryd.prog 13 #[.slice sp len cap] w fun e w' => e = .returned (.tuple #[(.agg (row .u8 17 (blk len z)).toArray), .int .i64 (blkE len)]) ∧ Below w.heap.size w w' := by
  have ee : blkE len = 0 := by unfold blkE; rw [if_pos hlen]
  rw [ee]
  have z0 : Has ((w.alloc (.cells #[.int .u8 0, .int .u8 0, .int .u8 0, .int .u8 0, .int .u8 0, .int .u8 0, .int .u8 0, .int .u8 0, .int .u8 0, .int .u8 0, .int .u8 0, .int .u8 0, .int .u8 0, .int .u8 0, .int .u8 0, .int .u8 0, .int .u8 0] 33)).alloc (.cells #[.int .u8 0, .int .u8 0, .int .u8 0, .int .u8 0, .int .u8 0, .int .u8 0, .int .u8 0, .int .u8 0, .int .u8 0, .int .u8 0, .int .u8 0, .int .u8 0, .int .u8 0, .int .u8 0, .int .u8 0, .int .u8 0, .int .u8 0] 33)) w.heap.size .u8 17 (fun _ => 0) := (big_zero _ _ _ rfl).alloc _ (by simp)
  have o0 : Has ((w.alloc (.cells #[.int .u8 0, .int .u8 0, .int .u8 0, .int .u8 0, .int .u8 0, .int .u8 0, .int .u8 0, .int .u8 0, .int .u8 0, .int .u8 0, .int .u8 0, .int .u8 0, .int .u8 0, .int .u8 0, .int .u8 0, .int .u8 0, .int .u8 0] 33)).alloc (.cells #[.int .u8 0, .int .u8 0, .int .u8 0, .int .u8 0, .int .u8 0, .int .u8 0, .int .u8 0, .int .u8 0, .int .u8 0, .int .u8 0, .int .u8 0, .int .u8 0, .int .u8 0, .int .u8 0, .int .u8 0, .int .u8 0, .int .u8 0] 33)) (w.heap.size + 1) .u8 17 (fun _ => 0) := big_zero _ _ _ (by simp)
  have g0 : Fr w 2 ((w.alloc (.cells #[.int .u8 0, .int .u8 0, .int .u8 0, .int .u8 0, .int .u8 0, .int .u8 0, .int .u8 0, .int .u8 0, .int .u8 0, .int .u8 0, .int .u8 0, .int .u8 0, .int .u8 0, .int .u8 0, .int .u8 0, .int .u8 0, .int .u8 0] 33)).alloc (.cells #[.int .u8 0, .int .u8 0, .int .u8 0, .int .u8 0, .int .u8 0, .int .u8 0, .int .u8 0, .int .u8 0, .int .u8 0, .int .u8 0, .int .u8 0, .int .u8 0, .int .u8 0, .int .u8 0, .int .u8 0, .int .u8 0, .int .u8 0] 33)) := ((Fr.refl w).alloc _).alloc _
  have g1 := g0.setAll (w.heap.size + 1) (by omega) (row .u8 17 (fun _ => 0))
  have hI0 : BI sp len z w 0 (fun _ => 0) (((w.alloc (.cells #[.int .u8 0, .int .u8 0, .int .u8 0, .int .u8 0, .int .u8 0, .int .u8 0, .int .u8 0, .int .u8 0, .int .u8 0, .int .u8 0, .int .u8 0, .int .u8 0, .int .u8 0, .int .u8 0, .int .u8 0, .int .u8 0, .int .u8 0] 33)).alloc (.cells #[.int .u8 0, .int .u8 0, .int .u8 0, .int .u8 0, .int .u8 0, .int .u8 0, .int .u8 0, .int .u8 0, .int .u8 0, .int .u8 0, .int .u8 0, .int .u8 0, .int .u8 0, .int .u8 0, .int .u8 0, .int .u8 0, .int .u8 0] 33)).setCells (w.heap.size + 1) 0 (row .u8 17 (fun _ => 0))) := ⟨fun j hj => by omega, fun _ _ => rfl, hs.below g1.below (Nat.le_refl _), Has.all o0.there .u8 (fun _ => 0), z0.setAll_other (w.heap.size + 1) (by omega) 0 _, g1⟩
  have hl : ¬ (len : Int) > 16 := by omega
  clear ee g0 g1 z0
  go_enter Tryd.func13, Tryd.ntmps13
  have tok : True := trivial
  go_upto_region 2 with (have _t := tok; refine wpList_store_mid rfl 33 _ _ rfl (w.heap.size + 1) 0 (row .u8 17 (fun _ => 0)).toArray rfl rfl (big_there (o0)) (big_info' _) (all_oneCell_toArray (row_one _ _ _)) ?_; clear tok)
  generalize (((w.alloc (.cells #[.int .u8 0, .int .u8 0, .int .u8 0, .int .u8 0, .int .u8 0, .int .u8 0, .int .u8 0, .int .u8 0, .int .u8 0, .int .u8 0, .int .u8 0, .int .u8 0, .int .u8 0, .int .u8 0, .int .u8 0, .int .u8 0, .int .u8 0] 33)).alloc (.cells #[.int .u8 0, .int .u8 0, .int .u8 0, .int .u8 0, .int .u8 0, .int .u8 0, .int .u8 0, .int .u8 0, .int .u8 0, .int .u8 0, .int .u8 0, .int .u8 0, .int .u8 0, .int .u8 0, .int .u8 0, .int .u8 0, .int .u8 0] 33)).setCells (w.heap.size + 1) 0 (row .u8 17 (fun _ => 0))) = w2 at *
  clear o0
  go_wp2
  go_loopw [5] (fun i w' => ∃ (k : Nat) (f : Nat → Int), k ≤ len ∧ i = .int .i64 k ∧ BI sp len z w k f w') (fun i _ => len - (intOf i).toNat)
  case atStart => exact ⟨0, _, by omega, rfl, hI0⟩
  case round =>
    obtain ⟨k, f, hk, rfl, hI⟩ := hrel
    clear hI0
    have g1 : (0 : Int) ≤ (k : Int) := by omega
    by_cases hlt : k < len
    · obtain ⟨ad, rfl, c1⟩ := hI.src k hlt
      have HS := show Hid _ from hI.step (by omega) hs
      have c2 := hI.ho.cell k (by omega)
      have f2 := hI.ho.free k (by omega)
      have g2 : (k : Int) < (len : Int) := by omega
      have g3 : (k : Int) < 17 := by omega
      have HW := show Hid _ from hs
      clear hI hs
      generalize f k = y at *
      generalize z k = x at *
      go_wp2
      go_roundw
      case rel => exact ⟨k + 1, _, by omega, by go_num, HS.out⟩
      case measure => simp [intOf]; omega
    · obtain rfl : k = len := by omega
      have c2 := hI.ho.cell k (by omega)
      have f2 := hI.ho.free k (by omega)
      have g3 : (k : Int) < 17 := by omega
      have hb := (hI.ho.set k (by omega) 1).congr (g := blk k z) (fun j hj => by
        unfold blk
        rw [if_pos hlen]
        by_cases e : j = k
        · subst e; rw [upd_same, if_neg (by omega), if_pos rfl]
        · rw [upd_other _ _ _ _ e]
          by_cases e2 : j < k
          · rw [if_pos e2]; exact hI.done j e2
          · rw [if_neg e2, if_neg e]; exact hI.rest j (by omega))
      have hz := hI.hr.set_other ⟨w.heap.size + 1, k, none⟩ (.int .u8 1) (by simp)
      have hB := ((hI.fr.set ⟨w.heap.size + 1, k, none⟩ (.int .u8 1) (by simp)).setAll w.heap.size (Nat.le_refl _) (row .u8 17 (blk k z))).below
      clear hI hs
      generalize f k = y at *
      go_upto_region 9 with fail
      generalize wr.setCell ⟨w.heap.size + 1, k, none⟩ (.int .u8 1) = w3 at *
      clear c2 f2 g3 hlen hl
      generalize hj : blk k z = g at *
      go_wp2_with (first | (refine wpList_load_mid rfl 33 _ rfl (w.heap.size + 1) 0 rfl (row .u8 17 (g)) _ (Has.range (hb)) Tryd.underlying33 rfl (big_info _) ?_) | (refine wpList_store_mid rfl 33 _ _ rfl (w.heap.size) 0 (row .u8 17 (g)).toArray rfl rfl (big_there (hz)) (big_info' _) (all_oneCell_toArray (row_one _ _ _)) ?_))
      exact bodyPost_ret (v := .tuple #[(.agg (row .u8 17 (g)).toArray), .int .i64 0]) (results_row_tmp Tryd.results13 rfl rfl (Has.all hz.there .u8 _).range Tryd.underlying33 rfl (big_info _)) rfl ⟨by rw [hj], hB⟩

theorem refBlock_any (sp : Option Addr) (len cap : Nat) (z : Nat → Int) (w : World) (hs : Src w sp len z) :
    Calls Tryd.prog 13 #[.slice sp len cap] w fun e w' => e = .returned (.tuple #[(.agg (row .u8 17 (blk len z)).toArray), .int .i64 (blkE len)]) ∧ Below w.heap.size w w' := by
  by_cases h : len ≤ 16
  · exact refBlock_short sp len cap z h w hs
  · exact refBlock_long sp len cap z (by omega) w
end Go.Proofs.YtnphoennagmiaaaDoor
