/- What plus makes of two clamp numbers. -/
import Derived.Test.YtnphoennagmiaaaDoorCm
import Derived.Deep.Cut
namespace Go.Proofs.YtnphoennagmiaaaDoor
open Go.RowKit

theorem cnum_info (f : Nat → Int) : (Tryd.prog.info? 49).map (·.size) = some (row .u64 3 f).length := by rw [row_length]; kernel_rfl
theorem cnum_info' (f : Nat → Int) : (Tryd.prog.info? 49).map (·.size) = some (row .u64 3 f).toArray.size := by rw [List.size_toArray]; exact cnum_info f
theorem cnum_there {w : World} {b : Nat} {f g : Nat → Int} (h : Has w b .u64 3 f) : w.there b 0 (row .u64 3 g).toArray.size := by rw [List.size_toArray, row_length]; exact h.there
theorem cnum_zero (w : World) (t : TypeId) (b : Nat) (hb : b = w.heap.size) : Has (w.alloc (.cells #[.int .u64 0, .int .u64 0, .int .u64 0] t)) b .u64 3 (fun _ => 0) := Has.new w .u64 3 (fun _ => 0) t b hb

/-- Behind k rounds of plus. -/
structure PInv (a b : Nat → Int) (w : World) (k : Nat) (n : Nat → Int) (cv : Int) (w' : World) : Prop where
  c0 : 0 ≤ cv
  c1 : cv ≤ 1
  inn : In W 3 n
  rest : ∀ j, k ≤ j → n j = a j
  eq : val W n k + W ^ k * cv = val W a k + val W b k
  hn : Has w' w.heap.size .u64 3 n
  hb : Has w' (w.heap.size + 1) .u64 3 b
  hr : Has w' (w.heap.size + 1 + 1) .u64 3 (fun _ => 0)
  below : Below w.heap.size w w'

theorem PInv.step {a b : Nat → Int} {w : World} {k : Nat} {n : Nat → Int} {cv : Int} {w' : World} (h : PInv a b w k n cv w') (hbi : In W 3 b) (hk : k < 3) :
    PInv a b w (k + 1) (upd n k (aLo (n k) (b k) cv)) (aHi (n k) (b k) cv) ((w'.setCell ⟨w.heap.size, k, none⟩ (.int .u64 (aLo (n k) (b k) cv))).drew) := by
  have i1 := h.inn k hk
  have i2 := hbi k hk
  have q0 := h.c0; have q1 := h.c1
  simp only [W] at i1 i2
  have l0 : 0 ≤ aLo (n k) (b k) cv := by unfold aLo; omega
  have l1 : aLo (n k) (b k) cv < W := by simp only [W]; unfold aLo; omega
  have es : aLo (n k) (b k) cv + W * aHi (n k) (b k) cv = n k + b k + cv := by simp only [W]; unfold aLo aHi; omega
  refine ⟨by unfold aHi; omega, by unfold aHi; omega, h.inn.upd k _ l0 l1, fun j hj => ?_, ?_, (h.hn.set k hk _).drew, (h.hb.set_other _ _ (by simp)).drew, (h.hr.set_other _ _ (by simp; omega)).drew, (h.below.setCell (by simp) _).drew⟩
  · rw [upd_other _ _ _ _ (by omega)]; exact h.rest j (by omega)
  · simp only [val]
    rw [val_upd _ _ _ _ _ (Nat.le_refl k), upd_same, Int.pow_succ, Int.mul_assoc]
    have e1 : W ^ k * aLo (n k) (b k) cv + W ^ k * (W * aHi (n k) (b k) cv) = W ^ k * n k + W ^ k * b k + W ^ k * cv := by
      rw [← Int.mul_add, es, Int.mul_add, Int.mul_add]
    have e2 := h.eq
    have e3 := h.rest k (Nat.le_refl k)
    rw [← e3]
    omega

set_option maxHeartbeats 1000000 in
theorem plus_any (a b : Nat → Int) (ha : In W 3 a) (hb : In W 3 b) (hs : val W a 3 + val W b 3 < W ^ 3) (w : World) :
    Calls Tryd.prog 30 #[(.agg (row .u64 3 (a)).toArray), (.agg (row .u64 3 (b)).toArray)] w fun e w' => ∃ n : Nat → Int, e = .returned (.agg (row .u64 3 (n)).toArray) ∧ (In W 3 n ∧ val W n 3 = val W a 3 + val W b 3) ∧ Below w.heap.size w w' := by
  go_enter Tryd.func30, Tryd.ntmps30
  go_wp2
  go_loopw [5, 7] (fun c i w' => ∃ (k : Nat) (n : Nat → Int) (cv : Int), k ≤ 3 ∧ i = .int .i64 k ∧ c = .int .u64 cv ∧ PInv a b w k n cv w') (fun _ i _ => 3 - (intOf i).toNat)
  case atStart =>
    exact ⟨0, a, 0, by omega, rfl, rfl, ⟨by omega, by omega, ha, fun _ _ => rfl, by simp [val], ((Has.new w _ _ _ _ _ rfl).alloc _ (by simp)).alloc _ (by simp; omega), (Has.new _ _ _ _ _ _ (by simp)).alloc _ (by simp), Has.new _ .u64 3 (fun _ => 0) _ _ (by simp), (((Below.refl _ _).alloc (Nat.le_refl _) _).alloc (by simp) _).alloc (by simp; omega) _⟩⟩
  case round =>
    obtain ⟨k, n, cv, hk, rfl, rfl, hI⟩ := hrel
    by_cases hlt : k < 3
    · have hS := hI.step hb hlt
      have c1 := hI.hn.cell k hlt
      have c2 := hI.hb.cell k hlt
      have f1 := hI.hn.free k hlt
      have b1 := (hI.inn k hlt).1
      have b2 := (hb k hlt).1
      have hadd := add64 (n k) (b k) cv b1 b2 hI.c0 hI.c1
      have g1 : (0 : Int) ≤ (k : Int) := by omega
      have g2 : (k : Int) < 3 := by omega
      clear hI
      generalize aLo (n k) (b k) cv = lo at *
      generalize aHi (n k) (b k) cv = hi at *
      generalize n k = x at *
      generalize b k = y at *
      go_wp2
      go_region
      go_wp2
      go_roundw
      case rel => exact ⟨k + 1, _, _, by omega, by go_num, rfl, hS⟩
      case measure => simp [intOf]; omega
    · obtain rfl : k = 3 := by omega
      have hM := plus_math hI.inn hI.c0 hI.eq hs
      have hn := hI.hn
      have hr := hI.hr
      have HM := show Hid _ from And.intro hI.inn hM
      have hB := below_setAll hI.below (w.heap.size + 1 + 1) (by omega) 0 (row .u64 3 n)
      clear hM hI hs hlt hk
      go_wp2_with (first | (refine wpList_load_mid rfl 49 _ rfl (w.heap.size) 0 rfl (row .u64 3 (n)) _ (Has.range (hn)) Tryd.underlying49 rfl (cnum_info _) ?_) | (refine wpList_store_mid rfl 49 _ _ rfl (w.heap.size + 1 + 1) 0 (row .u64 3 (n)).toArray rfl rfl (cnum_there (hr)) (cnum_info' _) (all_oneCell_toArray (row_one _ _ _)) ?_))
      exact bodyPost_ret (v := (.agg (row .u64 3 (n)).toArray)) (results_row Tryd.results30 rfl (Has.all hr.there .u64 n).range Tryd.underlying49 rfl (cnum_info n)) rfl ⟨n, rfl, HM.out, hB⟩
end Go.Proofs.YtnphoennagmiaaaDoor
