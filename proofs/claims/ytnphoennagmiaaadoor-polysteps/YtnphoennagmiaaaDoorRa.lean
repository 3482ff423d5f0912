/- What the document's own Add answers. -/
import Derived.Test.YtnphoennagmiaaaDoorRc
namespace Go.Proofs.YtnphoennagmiaaaDoor
open Go.RowKit

/-- The digits of two numbers, the first k added. -/
def addTo (a b : Nat → Int) (k : Nat) : Nat → Int := fun j => if j < k then dg 26 (nb a) j + dg 26 (nb b) j else dg 26 (nb a) j
theorem addTo_step (a b : Nat → Int) (k : Nat) : ∀ j, upd (addTo a b k) k (addTo a b k k + dg 26 (nb b) k) j = addTo a b (k + 1) j := fun j => by
  unfold upd addTo
  by_cases e : j = k
  · subst e; simp
  · rw [if_neg e]
    by_cases h : j < k
    · rw [if_pos h, if_pos (by omega)]
    · rw [if_neg h, if_neg (by omega)]
theorem addTo_bound (a b : Nat → Int) (k j : Nat) : 0 ≤ addTo a b k j ∧ addTo a b k j < 134217728 := by
  have h1 := dig_bound (nb a) j
  have h2 := dig_bound (nb b) j
  unfold addTo
  split <;> omega
theorem addTo_val (a b : Nat → Int) (ha : In 256 17 a) (hb : In 256 17 b) : val D (addTo a b 6) 6 = val 256 a 17 + val 256 b 17 := by
  rw [← dig_val a ha, ← dig_val b hb]
  simp [val, addTo]
  simp only [D]
  omega

structure TU (f g : Nat → Int) (B1 B2 : Nat) (w w' : World) : Prop where
  h1 : Has w' B1 .i64 6 f
  h2 : Has w' B2 .i64 6 g
  hr : w'.there (w.heap.size + 1 + 1) 0 17
  fr : Fr w 3 w'
  hi : B1 < w'.heap.size
theorem TU.set {a b : Nat → Int} {B1 B2 : Nat} {w w' : World} {k : Nat} (h : TU (addTo a b k) (dg 26 (nb b)) B1 B2 w w') (lo : w.heap.size + 3 ≤ B1) (ne : B1 ≠ B2) (hk : k < 6) : TU (addTo a b (k + 1)) (dg 26 (nb b)) B1 B2 w ((w'.setCell ⟨B1, k, none⟩ (.int .i64 (addTo a b k k + dg 26 (nb b) k))).drew) := by
  refine ⟨(Has.congr (h.h1.set k hk _) fun j _ => addTo_step a b k j).drew, (h.h2.set_other _ _ (by simpa using ne)).drew, fun j hj => ?_, (h.fr.set _ _ (by simp; omega)).drew, by have := h.hi; simpa using this⟩
  have hne : (⟨B1, k, none⟩ : Addr) ≠ ⟨w.heap.size + 1 + 1, 0 + j, none⟩ := by intro h'; injection h'; omega
  show ((w'.setCell _ _).cell? _).isSome = true ∧ (w'.setCell _ _).frozen? _ = false
  rw [World.cell?_setCell_other _ _ _ _ hne, World.frozen?_setCell]; exact h.hr j hj

set_option maxRecDepth 10000 in
set_option maxHeartbeats 4000000 in
theorem refAdd_any (a b : Nat → Int) (ha : In 256 17 a) (hb : In 256 17 b) (w : World) :
    Calls Tryd.prog 15 #[(.agg (row .u8 17 (a)).toArray), (.agg (row .u8 17 (b)).toArray)] w fun e w' => ∃ f : Nat → Int, e = .returned (.agg (row .u8 17 (f)).toArray) ∧ (In 256 17 f ∧ val 256 f 17 = (val 256 a 17 + val 256 b 17) % Q) ∧ Below w.heap.size w w' := by
  have t0 := Two.new a b w
  have a0 := t0.ha
  go_enter Tryd.func15, Tryd.ntmps15
  go_wp2_with (refine wpList_load_mid rfl 33 _ rfl (w.heap.size) 0 rfl (row .u8 17 (a)) _ (Has.range (a0)) Tryd.underlying33 rfl (big_info _) ?_)
  refine (digits_any a ha _).mono ?_
  rintro e w1 ⟨B1, rfl, h1, l1⟩
  have t1 := t0.call l1
  have lo1 : w.heap.size + 3 ≤ B1 := by have := h1.1; simp at this; omega
  have b1 := t1.hb
  clear t0 a0 l1
  go_wp2_with (refine wpList_load_mid rfl 33 _ rfl (w.heap.size + 1) 0 rfl (row .u8 17 (b)) _ (Has.range (b1)) Tryd.underlying33 rfl (big_info _) ?_)
  refine (digits_any b hb _).mono ?_
  rintro e w2 ⟨B2, rfl, h2, l2⟩
  have t2 := t1.call l2
  have ne : B1 ≠ B2 := by have := h1.2.1; have := h2.1; omega
  have tu : TU (addTo a b 0) (dg 26 (nb b)) B1 B2 w w2 := ⟨(h1.2.2.below l2 h1.2.1).congr (fun j _ => by unfold addTo; simp), h2.2.2, t2.hr, t2.fr, by have := h1.2.1; have := l2.size; omega⟩
  clear t1 t2 b1 h1 h2 l2
  go_wp2
  go_loopw [7] (fun i w' => ∃ k : Nat, k ≤ 6 ∧ i = .int .i64 k ∧ TU (addTo a b k) (dg 26 (nb b)) B1 B2 w w') (fun i _ => 6 - (intOf i).toNat)
  case atStart => exact ⟨0, by omega, rfl, tu⟩
  case round =>
    obtain ⟨k, hk, rfl, hI⟩ := hrel
    clear tu
    by_cases hlt : k < 6
    · have HS := show Hid _ from hI.set lo1 ne hlt
      have c1 := hI.h1.cell k (by omega)
      have c2 := hI.h2.cell k (by omega)
      have f1 := hI.h1.free k (by omega)
      have i1 := addTo_bound a b k k
      have i2 := dig_bound (nb b) k
      have g1 : (0 : Int) ≤ (k : Int) := by omega
      have g2 : (k : Int) < 6 := by omega
      clear hI
      generalize addTo a b k k = x at *
      generalize dg 26 (nb b) k = y at *
      obtain ⟨x0, x1⟩ := i1
      obtain ⟨y0, y1⟩ := i2
      go_wp2
      go_region
      go_wp2
      go_roundw
      case rel => exact ⟨k + 1, by omega, by go_num, HS.out⟩
      case measure => simp [intOf]; omega
    · obtain rfl : k = 6 := by omega
      clear hlt hk
      go_wp2_with fail
      refine (reduce_any 6 B1 (addTo a b 6) _ (Or.inl rfl) (fun j _ => by have := addTo_bound a b 6 j; omega) hI.hi hI.h1).mono ?_
      rintro e w3 ⟨f, rfl, s3, l3⟩
      have hz := there_below hI.hr l3 (by have := hI.fr.size; omega)
      have hE : In 256 17 f ∧ val 256 f 17 = (val 256 a 17 + val 256 b 17) % Q := ⟨s3.1, by rw [s3.2, addTo_val a b ha hb]⟩
      have HE := show Hid _ from hE
      have hL := ((hI.fr.call l3).setAll (w.heap.size + 1 + 1) (by omega) (row .u8 17 f)).below
      clear hE s3 hI l3
      go_wp2_with (refine wpList_store_mid rfl 33 _ _ rfl (w.heap.size + 1 + 1) 0 (row .u8 17 f).toArray rfl rfl (big_there' hz) (big_info' _) (all_oneCell_toArray (row_one _ _ _)) ?_)
      exact bodyPost_ret (v := (.agg (row .u8 17 (f)).toArray)) (results_row Tryd.results15 rfl (Has.all hz .u8 f).range Tryd.underlying33 rfl (big_info f)) rfl ⟨f, rfl, HE.out, hL⟩
end Go.Proofs.YtnphoennagmiaaaDoor
