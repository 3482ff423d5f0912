/- What Trim answers, and the document's own. -/
import Derived.Test.YthephehecapmhabDoorRung
import Derived.BigRegion
namespace Go.Proofs.YthephehecapmhabDoor
open Go.RowKit

/-- The table of the bytes that are changed. -/
structure Trs (w : World) : Prop where
  a0 : w.cell? ⟨0, 0, none⟩ = some (.int .i64 0)
  k0 : w.cell? ⟨0, 1, none⟩ = some (.int .u8 248)
  s0 : w.cell? ⟨0, 2, none⟩ = some (.int .u8 0)
  a1 : w.cell? ⟨0, 3, none⟩ = some (.int .i64 31)
  k1 : w.cell? ⟨0, 4, none⟩ = some (.int .u8 127)
  s1 : w.cell? ⟨0, 5, none⟩ = some (.int .u8 64)
theorem Trs.below {w w' : World} (h : Trs w) {B : Nat} (l : Below B w w') (hB : 3 ≤ B) : Trs w' := by
  have hb : ∀ o, w'.cell? ⟨0, o, none⟩ = w.cell? ⟨0, o, none⟩ := fun o => l.cell (p := ⟨0, o, none⟩) (Nat.lt_of_lt_of_le (show 0 < 3 by decide) hB)
  exact ⟨by rw [hb]; exact h.a0, by rw [hb]; exact h.k0, by rw [hb]; exact h.s0, by rw [hb]; exact h.a1, by rw [hb]; exact h.k1, by rw [hb]; exact h.s1⟩

/-- A secret with its bits set and cleared. -/
def trim (k : Nat → Int) : Nat → Int := fun j => if j = 0 then k 0 / 8 * 8 else if j = 31 then k 31 % 64 + 64 else k j
theorem trim_in (k : Nat → Int) (h : In 256 32 k) : In 256 32 (trim k) := fun j hj => by
  have h0 := h 0 (by omega)
  have h1 := h 31 (by omega)
  unfold trim
  split
  · omega
  · split
    · omega
    · exact h j hj
theorem trim_trim (k : Nat → Int) : ∀ j, trim (trim k) j = trim k j := fun j => by
  unfold trim
  simp only
  by_cases e : j = 0
  · subst e; simp only [if_true]; omega
  · by_cases e1 : j = 31
    · subst e1; simp
    · simp [e, e1]
theorem trim_low8 : ∀ x : Fin 256, bits BinOp.or IntKind.u8 (bits BinOp.and IntKind.u8 (x.val : Int) 248) 0 = (x.val : Int) / 8 * 8 := by decide +kernel
theorem trim_high8 : ∀ x : Fin 256, bits BinOp.or IntKind.u8 (bits BinOp.and IntKind.u8 (x.val : Int) 127) 64 = (x.val : Int) % 64 + 64 := by decide +kernel
theorem and_127 : ∀ x : Fin 256, bits BinOp.and IntKind.u8 (x.val : Int) 127 = (x.val : Int) % 128 := by decide +kernel
theorem trim_low (x : Int) (h : 0 ≤ x ∧ x < 256) : bits BinOp.or IntKind.u8 (bits BinOp.and IntKind.u8 x 248) 0 = x / 8 * 8 := by
  obtain ⟨n, rfl⟩ := Int.eq_ofNat_of_zero_le h.1
  exact trim_low8 ⟨n, by omega⟩
theorem trim_high (x : Int) (h : 0 ≤ x ∧ x < 256) : bits BinOp.or IntKind.u8 (bits BinOp.and IntKind.u8 x 127) 64 = x % 64 + 64 := by
  obtain ⟨n, rfl⟩ := Int.eq_ofNat_of_zero_le h.1
  exact trim_high8 ⟨n, by omega⟩
theorem and127 (x : Int) (h : 0 ≤ x ∧ x < 256) : bits BinOp.and IntKind.u8 x 127 = x % 128 := by
  obtain ⟨n, rfl⟩ := Int.eq_ofNat_of_zero_le h.1
  exact and_127 ⟨n, by omega⟩

structure TrInv (w : World) (m : Nat → Int) (w' : World) : Prop where
  ha : Has w' w.heap.size .u8 32 m
  hr : Has w' (w.heap.size + 1) .u8 32 (fun _ => 0)
  fr : Fr w 2 w'
theorem TrInv.step {w : World} {m : Nat → Int} {w' : World} (h : TrInv w m w') (i : Nat) (hi : i < 32) (x : Int) : TrInv w (upd m i x) ((w'.setCell ⟨w.heap.size, i, none⟩ (.int .u8 x)).drew) :=
  ⟨(h.ha.set i hi x).drew, (h.hr.set_other _ _ (by simp)).drew, (h.fr.set _ _ (by simp)).drew⟩

set_option maxRecDepth 10000 in
set_option maxHeartbeats 4000000 in
theorem trim_any (k : Nat → Int) (hk : In 256 32 k) (w : World) (ht : Trs w) (hs : 3 ≤ w.heap.size) :
    Calls Tryd.prog 7 #[(.agg (row .u8 32 (k)).toArray)] w fun e w' => e = .returned (.agg (row .u8 32 (trim k)).toArray) ∧ Below w.heap.size w w' := by
  have b0 : TrInv w k ((w.alloc (.cells (row .u8 32 k).toArray 23)).alloc (.cells #[.int .u8 0, .int .u8 0, .int .u8 0, .int .u8 0, .int .u8 0, .int .u8 0, .int .u8 0, .int .u8 0, .int .u8 0, .int .u8 0, .int .u8 0, .int .u8 0, .int .u8 0, .int .u8 0, .int .u8 0, .int .u8 0, .int .u8 0, .int .u8 0, .int .u8 0, .int .u8 0, .int .u8 0, .int .u8 0, .int .u8 0, .int .u8 0, .int .u8 0, .int .u8 0, .int .u8 0, .int .u8 0, .int .u8 0, .int .u8 0, .int .u8 0, .int .u8 0] 23)) := ⟨(Has.new w _ _ _ _ _ rfl).alloc _ (by simp), key_zero _ _ _ (by simp), ((Fr.refl w).alloc _).alloc _⟩
  have hE : ∀ j, upd (upd k 0 (k 0 / 8 * 8)) 31 (k 31 % 64 + 64) j = trim k j := fun j => by
    unfold trim
    by_cases e : j = 31
    · subst e; rw [upd_same]; simp
    · rw [upd_other _ _ _ _ e]
      by_cases e0 : j = 0
      · subst e0; rw [upd_same]; simp
      · rw [upd_other _ _ _ _ e0]; simp [e0, e]
  have x0 := hk 0 (by omega)
  have x1 := hk 31 (by omega)
  have HE := show Hid _ from hE
  have H0 := show Hid _ from trim_low (k 0) x0
  have H1 := show Hid _ from trim_high (k 31) x1
  have HX := show Hid _ from hk
  clear hE x0 x1 hk
  go_enter Tryd.func7, Tryd.ntmps7
  go_wp2
  go_loopw [5] (fun i w' => ∃ (t : Nat) (m : Nat → Int), t ≤ 2 ∧ i = .int .i64 t ∧ (t = 0 → m = k) ∧ (t = 1 → m = upd k 0 (k 0 / 8 * 8)) ∧ (t = 2 → m = upd (upd k 0 (k 0 / 8 * 8)) 31 (k 31 % 64 + 64)) ∧ TrInv w m w') (fun i _ => 2 - (intOf i).toNat)
  case atStart => exact ⟨0, k, by omega, rfl, fun _ => rfl, fun h => by omega, fun h => by omega, b0⟩
  case round =>
    obtain ⟨t, m, hk2, rfl, e0, e1, e2, hI⟩ := hrel
    clear b0
    have T := ht.below hI.fr.below hs
    obtain ⟨ta0, tk0, ts0, ta1, tk1, ts1⟩ := T
    by_cases h0 : t = 0
    · subst h0
      obtain rfl := e0 rfl
      clear e0 e1 e2 hk2
      have hS := hI.step 0 (by omega) (m 0 / 8 * 8)
      rw [← H0.out] at hS
      have c1 := hI.ha.cell 0 (by omega)
      have f1 := hI.ha.free 0 (by omega)
      have HM := show Hid _ from hS
      clear hS hI
      generalize hx : m 0 = x at *
      go_wp2
      go_region
      go_wp2
      go_roundw
      case rel => exact ⟨1, _, by omega, rfl, fun h => by omega, fun _ => by rw [H0.out], fun h => by omega, HM.out⟩
      case measure => simp [intOf]
    · by_cases h1 : t = 1
      · subst h1
        obtain rfl := e1 rfl
        clear e0 e1 e2 hk2 h0
        have hS := hI.step 31 (by omega) (k 31 % 64 + 64)
        rw [← H1.out] at hS
        have c1 := hI.ha.cell 31 (by omega)
        rw [upd_other _ _ _ _ (by omega)] at c1
        have f1 := hI.ha.free 31 (by omega)
        have HM := show Hid _ from hS
        clear hS hI
        generalize hx : k 31 = x at *
        go_wp2
        go_region
        go_wp2
        go_roundw
        case rel => exact ⟨2, _, by omega, rfl, fun h => by omega, fun h => by omega, fun _ => by rw [H1.out], HM.out⟩
        case measure => simp [intOf]
      · obtain rfl : t = 2 := by omega
        obtain rfl := e2 rfl
        have hA := hI.ha.congr (g := trim k) (fun j hj => HE.out j)
        have hz := hI.hr
        have hL := (hI.fr.setAll (w.heap.size + 1) (by omega) (row .u8 32 (trim k))).below
        clear e0 e1 e2 hk2 h0 h1 hI
        go_wp2_with (first | (refine wpList_load_mid rfl 23 _ rfl (w.heap.size) 0 rfl (row .u8 32 (trim k)) _ (Has.range (hA)) Tryd.underlying23 rfl (key_info _) ?_) | (refine wpList_store_mid rfl 23 _ _ rfl (w.heap.size + 1) 0 (row .u8 32 (trim k)).toArray rfl rfl (key_there (hz)) (key_info' _) (all_oneCell_toArray (row_one _ _ _)) ?_))
        exact bodyPost_ret (v := (.agg (row .u8 32 (trim k)).toArray)) (results_row Tryd.results7 rfl (Has.all hz.there .u8 (trim k)).range Tryd.underlying23 rfl (key_info (trim k))) rfl ⟨rfl, hL⟩
end Go.Proofs.YthephehecapmhabDoor
