/- What the program's sums and differences of four words come to: plus, minus. -/
import Derived.Test.YthephehecapmhabDoorAdds
namespace Go.Proofs.YthephehecapmhabDoor
open Go.RowKit

theorem num_info (f : Nat → Int) : (Tryd.prog.info? 46).map (·.size) = some (row .u64 4 f).length := by rw [row_length]; kernel_rfl
theorem num_info' (f : Nat → Int) : (Tryd.prog.info? 46).map (·.size) = some (row .u64 4 f).toArray.size := by rw [List.size_toArray]; exact num_info f

theorem num_there {w : World} {b : Nat} {f g : Nat → Int} (h : Has w b .u64 4 f) : w.there b 0 (row .u64 4 g).toArray.size := by rw [List.size_toArray, row_length]; exact h.there

/-- What plus answers. -/
def Sums (a b n : Nat → Int) (cv : Int) : Prop := 0 ≤ cv ∧ cv ≤ 1 ∧ In W 4 n ∧ val W n 4 + W ^ 4 * cv = val W a 4 + val W b 4
/-- What minus answers. -/
def Differs (a b n : Nat → Int) (cv : Int) : Prop := 0 ≤ cv ∧ cv ≤ 1 ∧ In W 4 n ∧ val W n 4 + val W b 4 = val W a 4 + W ^ 4 * cv

/-- Behind k rounds of plus. -/
structure PInv (a b : Nat → Int) (w : World) (k : Nat) (n : Nat → Int) (cv : Int) (w' : World) : Prop where
  c0 : 0 ≤ cv
  c1 : cv ≤ 1
  inn : In W 4 n
  rest : ∀ j, k ≤ j → n j = a j
  eq : val W n k + W ^ k * cv = val W a k + val W b k
  hn : Has w' w.heap.size .u64 4 n
  hb : Has w' (w.heap.size + 1) .u64 4 b
  hr : Has w' (w.heap.size + 1 + 1) .u64 4 (fun _ => 0)
  below : Below w.heap.size w w'

theorem PInv.step {a b : Nat → Int} {w : World} {k : Nat} {n : Nat → Int} {cv : Int} {w' : World} (h : PInv a b w k n cv w') (hbi : In W 4 b) (hk : k < 4) :
    PInv a b w (k + 1) (upd n k (aLo (n k) (b k) cv)) (aHi (n k) (b k) cv) ((w'.setCell ⟨w.heap.size, k, none⟩ (.int .u64 (aLo (n k) (b k) cv))).drew) := by
  have i1 := h.inn k hk
  have i2 := hbi k hk
  have q0 := h.c0; have q1 := h.c1
  simp only [W] at i1 i2
  have l0 : 0 ≤ aLo (n k) (b k) cv := by unfold aLo; omega
  have l1 : aLo (n k) (b k) cv < W := by simp only [W]; unfold aLo; omega
  have es : aLo (n k) (b k) cv + W * aHi (n k) (b k) cv = n k + b k + cv := by simp only [W]; unfold aLo aHi; omega
  refine ⟨by unfold aHi; omega, by unfold aHi; omega, h.inn.upd k _ l0 l1, fun j hj => ?_, ?_, (h.hn.set k hk _).drew, (h.hb.set_other _ _ (by simp)).drew, (h.hr.set_other _ _ (by simp; omega)).drew, (h.below.setCell (by simp) _).drew⟩
  · rw [upd_other _ _ _ _ (by omega)]; exact h.rest j (by omega)
  · simp only [val]
    rw [val_upd _ _ _ _ _ (Nat.le_refl k), upd_same, Int.pow_succ, Int.mul_assoc]
    have e1 : W ^ k * aLo (n k) (b k) cv + W ^ k * (W * aHi (n k) (b k) cv) = W ^ k * n k + W ^ k * b k + W ^ k * cv := by
      rw [← Int.mul_add, es, Int.mul_add, Int.mul_add]
    have e2 := h.eq
    have e3 := h.rest k (Nat.le_refl k)
    rw [← e3]
    omega

set_option maxHeartbeats 1000000 in
theorem plus_any (a b : Nat → Int) (ha : In W 4 a) (hb : In W 4 b) (w : World) :
    Calls Tryd.prog 37 #[.agg (row .u64 4 a).toArray, .agg (row .u64 4 b).toArray] w fun e w' => ∃ (n : Nat → Int) (cv : Int), e = .returned (.tuple #[.agg (row .u64 4 n).toArray, .int .u64 cv]) ∧
      Sums a b n cv ∧ Below w.heap.size w w' := by
  go_enter Tryd.func37, Tryd.ntmps37
  go_wp2
  go_loopw [6, 8] (fun c i w' => ∃ (k : Nat) (n : Nat → Int) (cv : Int), k ≤ 4 ∧ i = .int .i64 k ∧ c = .int .u64 cv ∧ PInv a b w k n cv w') (fun _ i _ => 4 - (intOf i).toNat)
  case atStart =>
    exact ⟨0, a, 0, by omega, rfl, rfl, ⟨by omega, by omega, ha, fun _ _ => rfl, by simp [val], ((Has.new w _ _ _ _ _ rfl).alloc _ (by simp)).alloc _ (by simp; omega), (Has.new _ _ _ _ _ _ (by simp)).alloc _ (by simp), Has.new _ .u64 4 (fun _ => 0) _ _ (by simp), (((Below.refl _ _).alloc (Nat.le_refl _) _).alloc (by simp) _).alloc (by simp; omega) _⟩⟩
  case round =>
    obtain ⟨k, n, cv, hk, rfl, rfl, hI⟩ := hrel
    by_cases hlt : k < 4
    · have hS := hI.step hb hlt
      have c1 := hI.hn.cell k hlt
      have c2 := hI.hb.cell k hlt
      have f1 := hI.hn.free k hlt
      have b1 := (hI.inn k hlt).1
      have b2 := (hb k hlt).1
      have hadd := add64 (n k) (b k) cv b1 b2 hI.c0 hI.c1
      have g1 : (0 : Int) ≤ (k : Int) := by omega
      have g2 : (k : Int) < 4 := by omega
      clear hI
      generalize aLo (n k) (b k) cv = lo at *
      generalize aHi (n k) (b k) cv = hi at *
      generalize n k = x at *
      generalize b k = y at *
      go_wp2
      go_region
      go_wp2
      go_roundw
      case rel => exact ⟨k + 1, _, _, by omega, by go_num, rfl, hS⟩
      case measure => simp [intOf]; omega
    · obtain rfl : k = 4 := by omega
      have hT := hI.hr.there
      go_wp2_with (first | (refine wpList_load_mid rfl 46 _ rfl (w.heap.size) 0 rfl (row .u64 4 (n)) _ (Has.range (hI.hn)) Tryd.underlying46 rfl (num_info _) ?_) | (refine wpList_store_mid rfl 46 _ _ rfl (w.heap.size + 1 + 1) 0 (row .u64 4 (n)).toArray rfl rfl (num_there (hI.hr)) (num_info' _) (all_oneCell_toArray (row_one _ _ _)) ?_))
      exact bodyPost_ret (v := .tuple #[.agg (row .u64 4 n).toArray, .int .u64 cv]) (results_row_tmp Tryd.results37 rfl rfl (Has.all hT .u64 n).range Tryd.underlying46 rfl (num_info n)) rfl ⟨n, cv, rfl, ⟨hI.c0, hI.c1, hI.inn, hI.eq⟩, below_setAll hI.below _ (by omega) _ _⟩

/-- Behind k rounds of minus. -/
structure MInv (a b : Nat → Int) (w : World) (k : Nat) (n : Nat → Int) (cv : Int) (w' : World) : Prop where
  c0 : 0 ≤ cv
  c1 : cv ≤ 1
  inn : In W 4 n
  rest : ∀ j, k ≤ j → n j = a j
  eq : val W n k + val W b k = val W a k + W ^ k * cv
  hn : Has w' w.heap.size .u64 4 n
  hb : Has w' (w.heap.size + 1) .u64 4 b
  hr : Has w' (w.heap.size + 1 + 1) .u64 4 (fun _ => 0)
  below : Below w.heap.size w w'

theorem MInv.step {a b : Nat → Int} {w : World} {k : Nat} {n : Nat → Int} {cv : Int} {w' : World} (h : MInv a b w k n cv w') (hbi : In W 4 b) (hk : k < 4) :
    MInv a b w (k + 1) (upd n k (sLo (n k) (b k) cv)) (sHi (n k) (b k) cv) ((w'.setCell ⟨w.heap.size, k, none⟩ (.int .u64 (sLo (n k) (b k) cv))).drew) := by
  have i1 := h.inn k hk
  have i2 := hbi k hk
  have q0 := h.c0; have q1 := h.c1
  simp only [W] at i1 i2
  have l0 : 0 ≤ sLo (n k) (b k) cv := by unfold sLo; omega
  have l1 : sLo (n k) (b k) cv < W := by simp only [W]; unfold sLo; omega
  have es : sLo (n k) (b k) cv + (b k + cv) = n k + W * sHi (n k) (b k) cv := by simp only [W]; unfold sLo sHi; split <;> omega
  refine ⟨by unfold sHi; split <;> omega, by unfold sHi; split <;> omega, h.inn.upd k _ l0 l1, fun j hj => ?_, ?_, (h.hn.set k hk _).drew, (h.hb.set_other _ _ (by simp)).drew, (h.hr.set_other _ _ (by simp; omega)).drew, (h.below.setCell (by simp) _).drew⟩
  · rw [upd_other _ _ _ _ (by omega)]; exact h.rest j (by omega)
  · simp only [val]
    rw [val_upd _ _ _ _ _ (Nat.le_refl k), upd_same, Int.pow_succ, Int.mul_assoc]
    have e1 : W ^ k * sLo (n k) (b k) cv + (W ^ k * b k + W ^ k * cv) = W ^ k * n k + W ^ k * (W * sHi (n k) (b k) cv) := by
      rw [← Int.mul_add, ← Int.mul_add, es, Int.mul_add]
    have e2 := h.eq
    have e3 := h.rest k (Nat.le_refl k)
    rw [← e3]
    omega

set_option maxHeartbeats 1000000 in
theorem minus_any (a b : Nat → Int) (ha : In W 4 a) (hb : In W 4 b) (w : World) :
    Calls Tryd.prog 39 #[.agg (row .u64 4 a).toArray, .agg (row .u64 4 b).toArray] w fun e w' => ∃ (n : Nat → Int) (cv : Int), e = .returned (.tuple #[.agg (row .u64 4 n).toArray, .int .u64 cv]) ∧
      Differs a b n cv ∧ Below w.heap.size w w' := by
  go_enter Tryd.func39, Tryd.ntmps39
  go_wp2
  go_loopw [6, 8] (fun c i w' => ∃ (k : Nat) (n : Nat → Int) (cv : Int), k ≤ 4 ∧ i = .int .i64 k ∧ c = .int .u64 cv ∧ MInv a b w k n cv w') (fun _ i _ => 4 - (intOf i).toNat)
  case atStart =>
    exact ⟨0, a, 0, by omega, rfl, rfl, ⟨by omega, by omega, ha, fun _ _ => rfl, by simp [val], ((Has.new w _ _ _ _ _ rfl).alloc _ (by simp)).alloc _ (by simp; omega), (Has.new _ _ _ _ _ _ (by simp)).alloc _ (by simp), Has.new _ .u64 4 (fun _ => 0) _ _ (by simp), (((Below.refl _ _).alloc (Nat.le_refl _) _).alloc (by simp) _).alloc (by simp; omega) _⟩⟩
  case round =>
    obtain ⟨k, n, cv, hk, rfl, rfl, hI⟩ := hrel
    by_cases hlt : k < 4
    · have hS := hI.step hb hlt
      have c1 := hI.hn.cell k hlt
      have c2 := hI.hb.cell k hlt
      have f1 := hI.hn.free k hlt
      have b1 := (hI.inn k hlt).1
      have b2 := (hb k hlt).1
      have hadd := sub64 (n k) (b k) cv b1 b2 (hb k hlt).2 hI.c0 hI.c1
      have g1 : (0 : Int) ≤ (k : Int) := by omega
      have g2 : (k : Int) < 4 := by omega
      clear hI
      generalize sLo (n k) (b k) cv = lo at *
      generalize sHi (n k) (b k) cv = hi at *
      generalize n k = x at *
      generalize b k = y at *
      go_wp2
      go_region
      go_wp2
      go_roundw
      case rel => exact ⟨k + 1, _, _, by omega, by go_num, rfl, hS⟩
      case measure => simp [intOf]; omega
    · obtain rfl : k = 4 := by omega
      have hT := hI.hr.there
      go_wp2_with (first | (refine wpList_load_mid rfl 46 _ rfl (w.heap.size) 0 rfl (row .u64 4 (n)) _ (Has.range (hI.hn)) Tryd.underlying46 rfl (num_info _) ?_) | (refine wpList_store_mid rfl 46 _ _ rfl (w.heap.size + 1 + 1) 0 (row .u64 4 (n)).toArray rfl rfl (num_there (hI.hr)) (num_info' _) (all_oneCell_toArray (row_one _ _ _)) ?_))
      exact bodyPost_ret (v := .tuple #[.agg (row .u64 4 n).toArray, .int .u64 cv]) (results_row_tmp Tryd.results39 rfl rfl (Has.all hT .u64 n).range Tryd.underlying46 rfl (num_info n)) rfl ⟨n, cv, rfl, ⟨hI.c0, hI.c1, hI.inn, hI.eq⟩, below_setAll hI.below _ (by omega) _ _⟩

end Go.Proofs.YthephehecapmhabDoor
