/- What the document's own Canon answers. -/
import Derived.Test.YtnphoennagmiaaaDoorRf
import Derived.Test.YtnphoennagmiaaaDoorKr
namespace Go.Proofs.YtnphoennagmiaaaDoor
open Go.RowKit

theorem dig_bound (N : Nat) : ∀ j, 0 ≤ dg 26 N j ∧ dg 26 N j < 67108864 := fun j => by
  have := dgN_lt 26 N j
  unfold dg
  omega
theorem dig_val (a : Nat → Int) (ha : In 256 17 a) : val D (dg 26 (nb a)) 6 = val 256 a 17 := by
  rw [val_dgs 26 (nb a) D (by decide) 6, Nat.mod_eq_of_lt (Nat.lt_of_lt_of_le (nb_lt a ha) (Nat.pow_le_pow_right (by decide) (by decide))), nb_val a ha]

set_option maxHeartbeats 2000000 in
theorem refCanon_any (a : Nat → Int) (ha : In 256 17 a) (w : World) :
    Calls Tryd.prog 24 #[(.agg (row .u8 17 (a)).toArray)] w fun e w' => ∃ f : Nat → Int, e = .returned (.agg (row .u8 17 (f)).toArray) ∧ (In 256 17 f ∧ val 256 f 17 = val 256 a 17 % Q) ∧ Below w.heap.size w w' := by
  have a0 : Has ((w.alloc (.cells (row .u8 17 a).toArray 33)).alloc (.cells #[.int .u8 0, .int .u8 0, .int .u8 0, .int .u8 0, .int .u8 0, .int .u8 0, .int .u8 0, .int .u8 0, .int .u8 0, .int .u8 0, .int .u8 0, .int .u8 0, .int .u8 0, .int .u8 0, .int .u8 0, .int .u8 0, .int .u8 0] 33)) w.heap.size .u8 17 a := (Has.new w _ _ _ _ _ rfl).alloc _ (by simp)
  have z0 : Has ((w.alloc (.cells (row .u8 17 a).toArray 33)).alloc (.cells #[.int .u8 0, .int .u8 0, .int .u8 0, .int .u8 0, .int .u8 0, .int .u8 0, .int .u8 0, .int .u8 0, .int .u8 0, .int .u8 0, .int .u8 0, .int .u8 0, .int .u8 0, .int .u8 0, .int .u8 0, .int .u8 0, .int .u8 0] 33)) (w.heap.size + 1) .u8 17 (fun _ => 0) := big_zero _ _ _ (by simp)
  have g0 : Fr w 2 ((w.alloc (.cells (row .u8 17 a).toArray 33)).alloc (.cells #[.int .u8 0, .int .u8 0, .int .u8 0, .int .u8 0, .int .u8 0, .int .u8 0, .int .u8 0, .int .u8 0, .int .u8 0, .int .u8 0, .int .u8 0, .int .u8 0, .int .u8 0, .int .u8 0, .int .u8 0, .int .u8 0, .int .u8 0] 33)) := ((Fr.refl w).alloc _).alloc _
  go_enter Tryd.func24, Tryd.ntmps24
  go_wp2_with (refine wpList_load_mid rfl 33 _ rfl (w.heap.size) 0 rfl (row .u8 17 (a)) _ (Has.range (a0)) Tryd.underlying33 rfl (big_info _) ?_)
  refine (digits_any a ha _).mono ?_
  rintro e w1 ⟨B, rfl, hB, l1⟩
  have g1 := g0.call l1
  have z1 := z0.call g0 l1 (by omega)
  go_wp2_with fail
  refine (reduce_any 6 B (dg 26 (nb a)) _ (Or.inl rfl) (fun j _ => by have := dig_bound (nb a) j; omega) hB.2.1 hB.2.2).mono ?_
  rintro e w2 ⟨f, rfl, s2, l2⟩
  have z2 := z1.call g1 l2 (by omega)
  have hE : In 256 17 f ∧ val 256 f 17 = val 256 a 17 % Q := ⟨s2.1, by rw [s2.2, dig_val a ha]⟩
  have HE := show Hid _ from hE
  have hL := ((g1.call l2).setAll (w.heap.size + 1) (by omega) (row .u8 17 f)).below
  clear hE s2 hB
  go_wp2_with (refine wpList_store_mid rfl 33 _ _ rfl (w.heap.size + 1) 0 (row .u8 17 (f)).toArray rfl rfl (big_there (z2)) (big_info' _) (all_oneCell_toArray (row_one _ _ _)) ?_)
  exact bodyPost_ret (v := (.agg (row .u8 17 (f)).toArray)) (results_row Tryd.results24 rfl (Has.all z2.there .u8 f).range Tryd.underlying33 rfl (big_info f)) rfl ⟨f, rfl, HE.out, hL⟩

/-- Two numbers in variables of the call's own, and room for the answer. -/
structure Two (a b : Nat → Int) (w w' : World) : Prop where
  ha : Has w' w.heap.size .u8 17 a
  hb : Has w' (w.heap.size + 1) .u8 17 b
  hr : w'.there (w.heap.size + 1 + 1) 0 17
  fr : Fr w 3 w'
theorem Two.call {a b : Nat → Int} {w w' w'' : World} (h : Two a b w w') (l : Below w'.heap.size w' w'') : Two a b w w'' :=
  ⟨h.ha.call h.fr l (by omega), h.hb.call h.fr l (by omega), there_below h.hr l (by have := h.fr.size; omega), h.fr.call l⟩
theorem Two.new (a b : Nat → Int) (w : World) : Two a b w (((w.alloc (.cells (row .u8 17 a).toArray 33)).alloc (.cells (row .u8 17 b).toArray 33)).alloc (.cells #[.int .u8 0, .int .u8 0, .int .u8 0, .int .u8 0, .int .u8 0, .int .u8 0, .int .u8 0, .int .u8 0, .int .u8 0, .int .u8 0, .int .u8 0, .int .u8 0, .int .u8 0, .int .u8 0, .int .u8 0, .int .u8 0, .int .u8 0] 33)) :=
  ⟨((Has.new w _ _ _ _ _ rfl).alloc _ (by simp)).alloc _ (by simp; omega), (Has.new _ _ _ _ _ _ (by simp)).alloc _ (by simp), (big_zero _ _ _ (by simp)).there, (((Fr.refl w).alloc _).alloc _).alloc _⟩
theorem big_there' {w : World} {b : Nat} {g : Nat → Int} (h : w.there b 0 17) : w.there b 0 (row .u8 17 g).toArray.size := by rw [List.size_toArray, row_length]; exact h
end Go.Proofs.YtnphoennagmiaaaDoor
