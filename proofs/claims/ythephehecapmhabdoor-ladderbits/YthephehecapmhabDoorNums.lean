/- What the program's numbers modulo 2^255 - 19 come to: wrap, sum, difference. -/
import Derived.Test.YthephehecapmhabDoorWords
namespace Go.Proofs.YthephehecapmhabDoor
open Go.RowKit

/-- 2^255 - 19. -/
abbrev Q : Int := 57896044618658097711785492504343953926634992332820282019728792003956564819949

/-- A number of one word. -/
def one (x : Int) : Nat → Int
  | 0 => x
  | _ + 1 => 0
theorem one_in (x : Int) (h0 : 0 ≤ x) (h1 : x < W) : In W 4 (one x)
  | 0, _ => ⟨h0, h1⟩
  | _ + 1, _ => ⟨Int.le_refl 0, (by decide : (0 : Int) < W)⟩
theorem val_one (x : Int) : val W (one x) 4 = x := by simp [val, one]
theorem W4 : W ^ 4 = 115792089237316195423570985008687907853269984665640564039457584007913129639936 := by decide

theorem has_zero (w : World) (t : TypeId) (b : Nat) (hb : b = w.heap.size) : Has (w.alloc (.cells #[.int .u64 0, .int .u64 0, .int .u64 0, .int .u64 0] t)) b .u64 4 (fun _ => 0) := Has.new w .u64 4 (fun _ => 0) t b hb

theorem wrap_math {n n1 n2 : Nat → Int} {o c1 c2 : Int} (hn : In W 4 n) (h0 : 0 ≤ o) (h1 : o ≤ 38) (h : Sums n (one (o * 38)) n1 c1) (h' : Sums n1 (one (c1 * 38)) n2 c2) :
    In W 4 n2 ∧ val W n2 4 % Q = (val W n 4 + W ^ 4 * o) % Q := by
  obtain ⟨a0, a1, a2, a3⟩ := h
  obtain ⟨b0, b1, b2, b3⟩ := h'
  rw [val_one, W4] at a3 b3
  have i0 := val_in W (by decide) n 4 hn
  have i1 := val_in W (by decide) n1 4 a2
  have i2 := val_in W (by decide) n2 4 b2
  rw [W4] at i0 i1 i2 ⊢
  refine ⟨b2, ?_⟩
  simp only [Q]
  have hc2 : c2 = 0 := by omega
  subst hc2
  omega

theorem one_row (x : Int) : (row .u64 4 (one x)).toArray = #[.int .u64 x, .int .u64 0, .int .u64 0, .int .u64 0] := rfl
theorem plus_one (a : Nat → Int) (x : Int) (ha : In W 4 a) (h0 : 0 ≤ x) (h1 : x < W) (w : World) :
    Calls Tryd.prog 37 #[(.agg (row .u64 4 (a)).toArray), .agg #[.int .u64 x, .int .u64 0, .int .u64 0, .int .u64 0]] w fun e w' => ∃ (n : Nat → Int) (cv : Int), e = .returned (.tuple #[(.agg (row .u64 4 (n)).toArray), .int .u64 cv]) ∧
      Sums a (one x) n cv ∧ Below w.heap.size w w' := by
  have h := plus_any a (one x) ha (one_in x h0 h1) w
  rw [one_row] at h
  exact h
theorem minus_one (a : Nat → Int) (x : Int) (ha : In W 4 a) (h0 : 0 ≤ x) (h1 : x < W) (w : World) :
    Calls Tryd.prog 39 #[(.agg (row .u64 4 (a)).toArray), .agg #[.int .u64 x, .int .u64 0, .int .u64 0, .int .u64 0]] w fun e w' => ∃ (n : Nat → Int) (cv : Int), e = .returned (.tuple #[(.agg (row .u64 4 (n)).toArray), .int .u64 cv]) ∧
      Differs a (one x) n cv ∧ Below w.heap.size w w' := by
  have h := minus_any a (one x) ha (one_in x h0 h1) w
  rw [one_row] at h
  exact h

theorem mul38 (x : Int) (h0 : 0 ≤ x) (h1 : x ≤ 38) : IntKind.u64.wrap (x * 38) = x * 38 := by rw [IntKind.wrap_u64]; omega

/-- A new variable with a row in it. -/
theorem boxed {w w' : World} {k : Nat} (g : Fr w k w') (hk : w'.heap.size = w.heap.size + k) (f : Nat → Int) (t : TypeId) : Has (w'.alloc (.cells (row .u64 4 f).toArray t)) (w.heap.size + k) .u64 4 f ∧ Fr w (k + 1) (w'.alloc (.cells (row .u64 4 f).toArray t)) :=
  ⟨Has.new w' .u64 4 f t _ hk.symm, g.alloc _⟩

set_option maxHeartbeats 1000000 in
theorem wrap_any (n : Nat → Int) (hn : In W 4 n) (o : Int) (h0 : 0 ≤ o) (h1 : o ≤ 38) (w : World) :
    Calls Tryd.prog 38 #[(.agg (row .u64 4 (n)).toArray), .int .u64 o] w fun e w' => ∃ m : Nat → Int, e = .returned (.agg (row .u64 4 (m)).toArray) ∧ (In W 4 m ∧ val W m 4 % Q = (val W n 4 + W ^ 4 * o) % Q) ∧ Below w.heap.size w w' := by
  have a0 : Has ((w.alloc (.cells (row .u64 4 n).toArray 46)).alloc (.cells #[.int .u64 0, .int .u64 0, .int .u64 0, .int .u64 0] 46)) w.heap.size .u64 4 n := (Has.new w _ _ _ _ _ rfl).alloc _ (by simp)
  have z0 : Has ((w.alloc (.cells (row .u64 4 n).toArray 46)).alloc (.cells #[.int .u64 0, .int .u64 0, .int .u64 0, .int .u64 0] 46)) (w.heap.size + 1) .u64 4 (fun _ => 0) := has_zero _ _ _ (by simp)
  have g0 : Fr w 2 ((w.alloc (.cells (row .u64 4 n).toArray 46)).alloc (.cells #[.int .u64 0, .int .u64 0, .int .u64 0, .int .u64 0] 46)) := ((Fr.refl w).alloc _).alloc _
  have e38 := mul38 o h0 h1
  go_enter Tryd.func38, Tryd.ntmps38
  go_wp2_with (refine wpList_load_mid rfl 46 _ rfl (w.heap.size) 0 rfl (row .u64 4 (n)) _ (Has.range (a0)) Tryd.underlying46 rfl (num_info _) ?_)
  refine (plus_one n (o * 38) hn (by omega) (by simp only [W]; omega) _).mono ?_
  rintro e w1 ⟨n1, c1, rfl, s1, l1⟩
  have a1 := Has.all (a0.call g0 l1 (by omega)).there .u64 n1
  have a1' := a0.call g0 l1 (by omega)
  have z1 := (z0.call g0 l1 (by omega)).setAll_other w.heap.size (by omega) 0 (row .u64 4 n1)
  have g1 := (g0.call l1).setAll w.heap.size (Nat.le_refl _) (row .u64 4 n1)
  have i1 := s1.2.2.1
  have c0 := s1.1
  have c1' := s1.2.1
  have e1 := mul38 c1 c0 (by omega)
  clear a0 z0 g0 l1
  go_wp2_with (first | (refine wpList_store_mid rfl 46 _ _ rfl (w.heap.size) 0 (row .u64 4 (n1)).toArray rfl rfl (num_there (a1')) (num_info' _) (all_oneCell_toArray (row_one _ _ _)) ?_) | (refine wpList_load_mid rfl 46 _ rfl (w.heap.size) 0 rfl (row .u64 4 (n1)) _ (Has.range (a1)) Tryd.underlying46 rfl (num_info _) ?_))
  refine (plus_one n1 (c1 * 38) i1 (by omega) (by simp only [W]; omega) _).mono ?_
  rintro e w2 ⟨n2, c2, rfl, s2, l2⟩
  have a2' := a1.call g1 l2 (by omega)
  have a2 := Has.all a2'.there .u64 n2
  have z2 := (z1.call g1 l2 (by omega)).setAll_other w.heap.size (by omega) 0 (row .u64 4 n2)
  have z3 := Has.all z2.there .u64 n2
  have g2 := ((g1.call l2).setAll w.heap.size (Nat.le_refl _) (row .u64 4 n2)).setAll (w.heap.size + 1) (by omega) (row .u64 4 n2)
  have hm := wrap_math hn h0 h1 s1 s2
  clear a1 z1 g1 l2
  go_wp2_with (first | (refine wpList_store_mid rfl 46 _ _ rfl (w.heap.size) 0 (row .u64 4 (n2)).toArray rfl rfl (num_there (a2')) (num_info' _) (all_oneCell_toArray (row_one _ _ _)) ?_) | (refine wpList_load_mid rfl 46 _ rfl (w.heap.size) 0 rfl (row .u64 4 (n2)) _ (Has.range (a2)) Tryd.underlying46 rfl (num_info _) ?_) | (refine wpList_store_mid rfl 46 _ _ rfl (w.heap.size + 1) 0 (row .u64 4 (n2)).toArray rfl rfl (num_there (z2)) (num_info' _) (all_oneCell_toArray (row_one _ _ _)) ?_))
  exact bodyPost_ret (v := (.agg (row .u64 4 (n2)).toArray)) (results_row Tryd.results38 rfl z3.range Tryd.underlying46 rfl (num_info n2)) rfl ⟨n2, rfl, hm, g2.below⟩

theorem sum_math {a b n m : Nat → Int} {c : Int} (s : Sums a b n c) (h : val W m 4 % Q = (val W n 4 + W ^ 4 * c) % Q) : val W m 4 % Q = (val W a 4 + val W b 4) % Q := by rw [h, s.2.2.2]

theorem two_boxes (a b : Nat → Int) (w : World) : Has (((w.alloc (.cells (row .u64 4 a).toArray 46)).alloc (.cells (row .u64 4 b).toArray 46)).alloc (.cells #[.int .u64 0, .int .u64 0, .int .u64 0, .int .u64 0] 46)) w.heap.size .u64 4 a ∧ Has (((w.alloc (.cells (row .u64 4 a).toArray 46)).alloc (.cells (row .u64 4 b).toArray 46)).alloc (.cells #[.int .u64 0, .int .u64 0, .int .u64 0, .int .u64 0] 46)) (w.heap.size + 1) .u64 4 b ∧ Has (((w.alloc (.cells (row .u64 4 a).toArray 46)).alloc (.cells (row .u64 4 b).toArray 46)).alloc (.cells #[.int .u64 0, .int .u64 0, .int .u64 0, .int .u64 0] 46)) (w.heap.size + 1 + 1) .u64 4 (fun _ => 0) ∧ Fr w 3 (((w.alloc (.cells (row .u64 4 a).toArray 46)).alloc (.cells (row .u64 4 b).toArray 46)).alloc (.cells #[.int .u64 0, .int .u64 0, .int .u64 0, .int .u64 0] 46)) :=
  ⟨((Has.new w _ _ _ _ _ rfl).alloc _ (by simp)).alloc _ (by simp; omega), (Has.new _ _ _ _ _ _ (by simp)).alloc _ (by simp), has_zero _ _ _ (by simp), (((Fr.refl w).alloc _).alloc _).alloc _⟩

set_option maxHeartbeats 1000000 in
theorem sum_any (a b : Nat → Int) (ha : In W 4 a) (hb : In W 4 b) (w : World) :
    Calls Tryd.prog 30 #[(.agg (row .u64 4 (a)).toArray), (.agg (row .u64 4 (b)).toArray)] w fun e w' => ∃ m : Nat → Int, e = .returned (.agg (row .u64 4 (m)).toArray) ∧ (In W 4 m ∧ val W m 4 % Q = (val W a 4 + val W b 4) % Q) ∧ Below w.heap.size w w' := by
  obtain ⟨a0, b0, z0, g0⟩ := two_boxes a b w
  go_enter Tryd.func30, Tryd.ntmps30
  go_wp2_with (first | (refine wpList_load_mid rfl 46 _ rfl (w.heap.size) 0 rfl (row .u64 4 (a)) _ (Has.range (a0)) Tryd.underlying46 rfl (num_info _) ?_) | (refine wpList_load_mid rfl 46 _ rfl (w.heap.size + 1) 0 rfl (row .u64 4 (b)) _ (Has.range (b0)) Tryd.underlying46 rfl (num_info _) ?_))
  refine (plus_any a b ha hb _).mono ?_
  rintro e w1 ⟨n1, c1, rfl, s1, l1⟩
  have n0 := has_zero w1 46 w1.heap.size rfl
  have n1' := Has.all n0.there .u64 n1
  have g1 := g0.call l1
  have z1 := (z0.call g0 l1 (by omega))
  have z2 := (z1.alloc (.cells #[.int .u64 0, .int .u64 0, .int .u64 0, .int .u64 0] 46) (by have := g1.size; omega)).setAll_other w1.heap.size (by have := g1.size; omega) 0 (row .u64 4 n1)
  have g2 := (g1.alloc (.cells #[.int .u64 0, .int .u64 0, .int .u64 0, .int .u64 0] 46)).setAll w1.heap.size (by have := g1.size; omega) (row .u64 4 n1)
  have i1 := s1.2.2.1
  have c0 := s1.1
  have c1' := s1.2.1
  clear a0 b0 z0 g0 l1
  go_wp2_with (first | (refine wpList_store_mid rfl 46 _ _ rfl (w1.heap.size) 0 (row .u64 4 (n1)).toArray rfl rfl (num_there (n0)) (num_info' _) (all_oneCell_toArray (row_one _ _ _)) ?_) | (refine wpList_load_mid rfl 46 _ rfl (w1.heap.size) 0 rfl (row .u64 4 (n1)) _ (Has.range (n1')) Tryd.underlying46 rfl (num_info _) ?_))
  refine (wrap_any n1 i1 c1 c0 (by omega) _).mono ?_
  rintro e w2 ⟨m, rfl, s2, l2⟩
  have z3 := z2.call g2 l2 (by omega)
  have z4 := Has.all z3.there .u64 m
  have g3 := (g2.call l2).setAll (w.heap.size + 1 + 1) (by omega) (row .u64 4 m)
  go_wp2_with (refine wpList_store_mid rfl 46 _ _ rfl (w.heap.size + 1 + 1) 0 (row .u64 4 (m)).toArray rfl rfl (num_there (z3)) (num_info' _) (all_oneCell_toArray (row_one _ _ _)) ?_)
  exact bodyPost_ret (v := (.agg (row .u64 4 (m)).toArray)) (results_row Tryd.results30 rfl z4.range Tryd.underlying46 rfl (num_info m)) rfl ⟨m, rfl, ⟨s2.1, sum_math s1 s2.2⟩, g3.below⟩

theorem diff_math {a b n1 n2 n3 : Nat → Int} {c1 c2 c3 : Int} (ha : In W 4 a) (hb : In W 4 b) (h1 : Differs a b n1 c1) (h2 : Differs n1 (one (c1 * 38)) n2 c2) (h3 : Differs n2 (one (c2 * 38)) n3 c3) :
    In W 4 n3 ∧ val W n3 4 % Q = (val W a 4 - val W b 4) % Q := by
  obtain ⟨a0, a1, a2, a3⟩ := h1
  obtain ⟨b0, b1, b2, b3⟩ := h2
  obtain ⟨d0, d1, d2, d3⟩ := h3
  rw [val_one, W4] at b3 d3
  rw [W4] at a3
  have i0 := val_in W (by decide) a 4 ha
  have i0' := val_in W (by decide) b 4 hb
  have i1 := val_in W (by decide) n1 4 a2
  have i2 := val_in W (by decide) n2 4 b2
  have i3 := val_in W (by decide) n3 4 d2
  rw [W4] at i0 i0' i1 i2 i3
  refine ⟨d2, ?_⟩
  simp only [Q]
  have hc3 : c3 = 0 := by omega
  subst hc3
  omega

set_option maxHeartbeats 1000000 in
theorem difference_any (a b : Nat → Int) (ha : In W 4 a) (hb : In W 4 b) (w : World) :
    Calls Tryd.prog 31 #[(.agg (row .u64 4 (a)).toArray), (.agg (row .u64 4 (b)).toArray)] w fun e w' => ∃ m : Nat → Int, e = .returned (.agg (row .u64 4 (m)).toArray) ∧ (In W 4 m ∧ val W m 4 % Q = (val W a 4 - val W b 4) % Q) ∧ Below w.heap.size w w' := by
  obtain ⟨a0, b0, z0, g0⟩ := two_boxes a b w
  go_enter Tryd.func31, Tryd.ntmps31
  go_wp2_with (first | (refine wpList_load_mid rfl 46 _ rfl (w.heap.size) 0 rfl (row .u64 4 (a)) _ (Has.range (a0)) Tryd.underlying46 rfl (num_info _) ?_) | (refine wpList_load_mid rfl 46 _ rfl (w.heap.size + 1) 0 rfl (row .u64 4 (b)) _ (Has.range (b0)) Tryd.underlying46 rfl (num_info _) ?_))
  refine (minus_any a b ha hb _).mono ?_
  rintro e w1 ⟨n1, c1, rfl, s1, l1⟩
  have n0 := has_zero w1 46 w1.heap.size rfl
  have n1' := Has.all n0.there .u64 n1
  have g1 := g0.call l1
  have hN : w.heap.size + 3 ≤ w1.heap.size := g1.size
  have z1 := (z0.call g0 l1 (by omega))
  have z2 := (z1.alloc (.cells #[.int .u64 0, .int .u64 0, .int .u64 0, .int .u64 0] 46) (by omega)).setAll_other w1.heap.size (by omega) 0 (row .u64 4 n1)
  have g2 := (g1.alloc (.cells #[.int .u64 0, .int .u64 0, .int .u64 0, .int .u64 0] 46)).setAll w1.heap.size (by omega) (row .u64 4 n1)
  have k2 : w1.heap.size < ((w1.alloc (.cells #[.int .u64 0, .int .u64 0, .int .u64 0, .int .u64 0] 46)).setCells w1.heap.size 0 (row .u64 4 n1)).heap.size := by rw [size_setAll]; simp
  have i1 := s1.2.2.1
  have c0 := s1.1
  have c1' := s1.2.1
  have e1 := mul38 c1 c0 (by omega)
  clear a0 b0 z0 g0 l1
  go_wp2_with (first | (refine wpList_store_mid rfl 46 _ _ rfl (w1.heap.size) 0 (row .u64 4 (n1)).toArray rfl rfl (num_there (n0)) (num_info' _) (all_oneCell_toArray (row_one _ _ _)) ?_) | (refine wpList_load_mid rfl 46 _ rfl (w1.heap.size) 0 rfl (row .u64 4 (n1)) _ (Has.range (n1')) Tryd.underlying46 rfl (num_info _) ?_))
  refine (minus_one n1 (c1 * 38) i1 (by omega) (by simp only [W]; omega) _).mono ?_
  rintro e w2 ⟨n2, c2, rfl, s2, l2⟩
  have n2' := n1'.below l2 k2
  have n2'' := Has.all n2'.there .u64 n2
  have z3 := (z2.call g2 l2 (by omega)).setAll_other w1.heap.size (by omega) 0 (row .u64 4 n2)
  have g3 := (g2.call l2).setAll w1.heap.size (by omega) (row .u64 4 n2)
  have k3 : w1.heap.size < (w2.setCells w1.heap.size 0 (row .u64 4 n2)).heap.size := by rw [size_setAll]; have := l2.size; omega
  have i2 := s2.2.2.1
  have d0 := s2.1
  have d1 := s2.2.1
  have e2 := mul38 c2 d0 (by omega)
  clear n0 n1' z1 z2 g1 g2 k2 l2
  go_wp2_with (first | (refine wpList_store_mid rfl 46 _ _ rfl (w1.heap.size) 0 (row .u64 4 (n2)).toArray rfl rfl (num_there (n2')) (num_info' _) (all_oneCell_toArray (row_one _ _ _)) ?_) | (refine wpList_load_mid rfl 46 _ rfl (w1.heap.size) 0 rfl (row .u64 4 (n2)) _ (Has.range (n2'')) Tryd.underlying46 rfl (num_info _) ?_))
  refine (minus_one n2 (c2 * 38) i2 (by omega) (by simp only [W]; omega) _).mono ?_
  rintro e w3 ⟨n3, c3, rfl, s3, l3⟩
  have n3' := n2''.below l3 k3
  have n3'' := Has.all n3'.there .u64 n3
  have z4 := (z3.call g3 l3 (by omega)).setAll_other w1.heap.size (by omega) 0 (row .u64 4 n3)
  have z5 := Has.all z4.there .u64 n3
  have g4 := ((g3.call l3).setAll w1.heap.size (by omega) (row .u64 4 n3)).setAll (w.heap.size + 1 + 1) (by omega) (row .u64 4 n3)
  have hm := diff_math ha hb s1 s2 s3
  clear n2' n2'' z3 g3 k3 l3
  go_wp2_with (first | (refine wpList_store_mid rfl 46 _ _ rfl (w1.heap.size) 0 (row .u64 4 (n3)).toArray rfl rfl (num_there (n3')) (num_info' _) (all_oneCell_toArray (row_one _ _ _)) ?_) | (refine wpList_load_mid rfl 46 _ rfl (w1.heap.size) 0 rfl (row .u64 4 (n3)) _ (Has.range (n3'')) Tryd.underlying46 rfl (num_info _) ?_) | (refine wpList_store_mid rfl 46 _ _ rfl (w.heap.size + 1 + 1) 0 (row .u64 4 (n3)).toArray rfl rfl (num_there (z4)) (num_info' _) (all_oneCell_toArray (row_one _ _ _)) ?_))
  exact bodyPost_ret (v := (.agg (row .u64 4 (n3)).toArray)) (results_row Tryd.results31 rfl z5.range Tryd.underlying46 rfl (num_info n3)) rfl ⟨n3, rfl, hm, g4.below⟩
end Go.Proofs.YthephehecapmhabDoor
