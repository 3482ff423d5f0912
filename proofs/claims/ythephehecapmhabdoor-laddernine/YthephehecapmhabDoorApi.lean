/- What Add, Sub, Mul, Invert answer: least bytes. -/
import Derived.Test.YthephehecapmhabDoorSave
import Derived.Test.YthephehecapmhabDoorInv
import Derived.Test.YthephehecapmhabDoorStep
namespace Go.Proofs.YthephehecapmhabDoor
open Go.RowKit

theorem there_below {w w' : World} {b n : Nat} (h : w.there b 0 n) {B : Nat} (l : Below B w w') (hb : b < B) : w'.there b 0 n := fun j hj => by
  rw [l.cell (p := ⟨b, 0 + j, none⟩) hb, l.frozen (p := ⟨b, 0 + j, none⟩) hb]; exact h j hj
theorem key_there' {w : World} {b : Nat} {g : Nat → Int} (h : w.there b 0 32) : w.there b 0 (row .u8 32 g).toArray.size := by rw [List.size_toArray, row_length]; exact h

/-- Two keys in variables of the call's own, and room for the answer. -/
structure Two (a b : Nat → Int) (w w' : World) : Prop where
  ha : Has w' w.heap.size .u8 32 a
  hb : Has w' (w.heap.size + 1) .u8 32 b
  hr : w'.there (w.heap.size + 1 + 1) 0 32
  fr : Fr w 3 w'
theorem Two.call {a b : Nat → Int} {w w' w'' : World} (h : Two a b w w') (l : Below w'.heap.size w' w'') : Two a b w w'' :=
  ⟨h.ha.call h.fr l (by omega), h.hb.call h.fr l (by omega), there_below h.hr l (by have := h.fr.size; omega), h.fr.call l⟩
theorem Two.drew {a b : Nat → Int} {w w' : World} (h : Two a b w w') : Two a b w w'.drew := ⟨h.ha.drew, h.hb.drew, h.hr, h.fr.drew⟩
theorem Two.stored {a b : Nat → Int} {w w' : World} (h : Two a b w w') (f : Nat → Int) : Two a b w (w'.setCells (w.heap.size + 1 + 1) 0 (row .u8 32 f)) :=
  ⟨h.ha.setAll_other _ (by omega) 0 _, h.hb.setAll_other _ (by omega) 0 _, World.there_setCells h.hr _ _ _, h.fr.setAll _ (by omega) _⟩
theorem Two.new (a b : Nat → Int) (w : World) : Two a b w (((w.alloc (.cells (row .u8 32 a).toArray 23)).alloc (.cells (row .u8 32 b).toArray 23)).alloc (.cells #[.int .u8 0, .int .u8 0, .int .u8 0, .int .u8 0, .int .u8 0, .int .u8 0, .int .u8 0, .int .u8 0, .int .u8 0, .int .u8 0, .int .u8 0, .int .u8 0, .int .u8 0, .int .u8 0, .int .u8 0, .int .u8 0, .int .u8 0, .int .u8 0, .int .u8 0, .int .u8 0, .int .u8 0, .int .u8 0, .int .u8 0, .int .u8 0, .int .u8 0, .int .u8 0, .int .u8 0, .int .u8 0, .int .u8 0, .int .u8 0, .int .u8 0, .int .u8 0] 23)) :=
  ⟨((Has.new w _ _ _ _ _ rfl).alloc _ (by simp)).alloc _ (by simp; omega), (Has.new _ _ _ _ _ _ (by simp)).alloc _ (by simp), (key_zero _ _ _ (by simp)).there, (((Fr.refl w).alloc _).alloc _).alloc _⟩

set_option maxHeartbeats 2000000 in
theorem add_any (a b : Nat → Int) (ha : In 256 32 a) (hb : In 256 32 b) (w : World) (hg : Glob w) :
    Calls Tryd.prog 20 #[(.agg (row .u8 32 (a)).toArray), (.agg (row .u8 32 (b)).toArray)] w fun e w' => ∃ f : Nat → Int, e = .returned (.agg (row .u8 32 (f)).toArray) ∧ (In 256 32 f ∧ val 256 f 32 = (val 256 a 32 + val 256 b 32) % Q) ∧ Below w.heap.size w w' := by
  have t0 := (Two.new a b w).drew
  go_enter Tryd.func20, Tryd.ntmps20
  go_wp2
  refine wp_region_held_drew (S := fun w' => Two a b w w') (by kernel_rfl) t0 ?_
  intro t0
  refine rowH (i := 0) (some 5) rfl .u8 32 a w.heap.size 23 _ _ rfl rfl rfl rfl (by kernel_rfl) (by kernel_rfl) (by kernel_rfl) (fun _ _ _ h => h) Tryd.underlying23 rfl (key_info a) t0 (fun _ h => h.ha) ?_
  refine rowH (i := 2) (some 7) rfl .u8 32 b (w.heap.size + 1) 23 _ _ rfl rfl rfl rfl (by kernel_rfl) (by kernel_rfl) (by kernel_rfl) (fun _ _ _ h => h) Tryd.underlying23 rfl (key_info b) t0 (fun _ h => h.hb) ?_
  refine callH (i := 1) (some 6) rfl (by kernel_rfl) rfl rfl (fun _ => by kernel_rfl) (load_any a ha _) ?_
  rintro e w1 ⟨m1, rfl, s1, l1⟩
  have t1 := t0.call l1
  refine ⟨_, rfl, t1, ?_⟩
  refine callH (i := 3) (some 8) rfl (by kernel_rfl) rfl rfl (fun _ => by kernel_rfl) (load_any b hb _) ?_
  rintro e w2 ⟨m2, rfl, s2, l2⟩
  have t2 := t1.call l2
  refine ⟨_, rfl, t2, ?_⟩
  refine callH (i := 4) (some 9) rfl (by kernel_rfl) rfl rfl (fun _ => by kernel_rfl) (sum_any m1 m2 s1.1 s2.1 _) ?_
  rintro e w3 ⟨m3, rfl, s3, l3⟩
  have t3 := t2.call l3
  refine ⟨_, rfl, t3, ?_⟩
  refine callH (i := 5) (some 10) rfl (by kernel_rfl) rfl rfl (fun _ => by kernel_rfl) (save_any m3 s3.1 _ (hg.fr t3.fr)) ?_
  rintro e w4 ⟨f, rfl, s4, l4⟩
  have t4 := t3.call l4
  refine ⟨_, rfl, t4, ?_⟩
  refine storesH (i := 6) none rfl .u8 32 f (w.heap.size + 1 + 1) 23 _ _ (by kernel_rfl) rfl rfl rfl rfl rfl (key_there' t4.hr) (key_info' f) (t4.stored f) ?_
  refine wpAnyH_done (by kernel_rfl) ?_ _
  have hE : In 256 32 f ∧ val 256 f 32 = (val 256 a 32 + val 256 b 32) % Q := ⟨s4.1, by rw [s4.2, s3.2, s1.2, s2.2]⟩
  have HE := show Hid _ from hE
  clear hE s1 s2 s3 s4
  go_wp2
  exact bodyPost_ret (v := (.agg (row .u8 32 (f)).toArray)) (results_row Tryd.results20 rfl (Has.all t4.hr .u8 f).range Tryd.underlying23 rfl (key_info f)) rfl ⟨f, rfl, HE.out, (t4.stored f).fr.below⟩

set_option maxHeartbeats 2000000 in
theorem sub_any (a b : Nat → Int) (ha : In 256 32 a) (hb : In 256 32 b) (w : World) (hg : Glob w) :
    Calls Tryd.prog 21 #[(.agg (row .u8 32 (a)).toArray), (.agg (row .u8 32 (b)).toArray)] w fun e w' => ∃ f : Nat → Int, e = .returned (.agg (row .u8 32 (f)).toArray) ∧ (In 256 32 f ∧ val 256 f 32 = (val 256 a 32 - val 256 b 32) % Q) ∧ Below w.heap.size w w' := by
  have t0 := (Two.new a b w).drew
  go_enter Tryd.func21, Tryd.ntmps21
  go_wp2
  refine wp_region_held_drew (S := fun w' => Two a b w w') (by kernel_rfl) t0 ?_
  intro t0
  refine rowH (i := 0) (some 5) rfl .u8 32 a w.heap.size 23 _ _ rfl rfl rfl rfl (by kernel_rfl) (by kernel_rfl) (by kernel_rfl) (fun _ _ _ h => h) Tryd.underlying23 rfl (key_info a) t0 (fun _ h => h.ha) ?_
  refine rowH (i := 2) (some 7) rfl .u8 32 b (w.heap.size + 1) 23 _ _ rfl rfl rfl rfl (by kernel_rfl) (by kernel_rfl) (by kernel_rfl) (fun _ _ _ h => h) Tryd.underlying23 rfl (key_info b) t0 (fun _ h => h.hb) ?_
  refine callH (i := 1) (some 6) rfl (by kernel_rfl) rfl rfl (fun _ => by kernel_rfl) (load_any a ha _) ?_
  rintro e w1 ⟨m1, rfl, s1, l1⟩
  have t1 := t0.call l1
  refine ⟨_, rfl, t1, ?_⟩
  refine callH (i := 3) (some 8) rfl (by kernel_rfl) rfl rfl (fun _ => by kernel_rfl) (load_any b hb _) ?_
  rintro e w2 ⟨m2, rfl, s2, l2⟩
  have t2 := t1.call l2
  refine ⟨_, rfl, t2, ?_⟩
  refine callH (i := 4) (some 9) rfl (by kernel_rfl) rfl rfl (fun _ => by kernel_rfl) (difference_any m1 m2 s1.1 s2.1 _) ?_
  rintro e w3 ⟨m3, rfl, s3, l3⟩
  have t3 := t2.call l3
  refine ⟨_, rfl, t3, ?_⟩
  refine callH (i := 5) (some 10) rfl (by kernel_rfl) rfl rfl (fun _ => by kernel_rfl) (save_any m3 s3.1 _ (hg.fr t3.fr)) ?_
  rintro e w4 ⟨f, rfl, s4, l4⟩
  have t4 := t3.call l4
  refine ⟨_, rfl, t4, ?_⟩
  refine storesH (i := 6) none rfl .u8 32 f (w.heap.size + 1 + 1) 23 _ _ (by kernel_rfl) rfl rfl rfl rfl rfl (key_there' t4.hr) (key_info' f) (t4.stored f) ?_
  refine wpAnyH_done (by kernel_rfl) ?_ _
  have hE : In 256 32 f ∧ val 256 f 32 = (val 256 a 32 - val 256 b 32) % Q := ⟨s4.1, by rw [s4.2, s3.2, s1.2, s2.2]⟩
  have HE := show Hid _ from hE
  clear hE s1 s2 s3 s4
  go_wp2
  exact bodyPost_ret (v := (.agg (row .u8 32 (f)).toArray)) (results_row Tryd.results21 rfl (Has.all t4.hr .u8 f).range Tryd.underlying23 rfl (key_info f)) rfl ⟨f, rfl, HE.out, (t4.stored f).fr.below⟩

set_option maxHeartbeats 2000000 in
theorem mul_any (a b : Nat → Int) (ha : In 256 32 a) (hb : In 256 32 b) (w : World) (hg : Glob w) :
    Calls Tryd.prog 15 #[(.agg (row .u8 32 (a)).toArray), (.agg (row .u8 32 (b)).toArray)] w fun e w' => ∃ f : Nat → Int, e = .returned (.agg (row .u8 32 (f)).toArray) ∧ (In 256 32 f ∧ val 256 f 32 = (val 256 a 32 * val 256 b 32) % Q) ∧ Below w.heap.size w w' := by
  have t0 := (Two.new a b w).drew
  go_enter Tryd.func15, Tryd.ntmps15
  go_wp2
  refine wp_region_held_drew (S := fun w' => Two a b w w') (by kernel_rfl) t0 ?_
  intro t0
  refine rowH (i := 0) (some 5) rfl .u8 32 a w.heap.size 23 _ _ rfl rfl rfl rfl (by kernel_rfl) (by kernel_rfl) (by kernel_rfl) (fun _ _ _ h => h) Tryd.underlying23 rfl (key_info a) t0 (fun _ h => h.ha) ?_
  refine rowH (i := 2) (some 7) rfl .u8 32 b (w.heap.size + 1) 23 _ _ rfl rfl rfl rfl (by kernel_rfl) (by kernel_rfl) (by kernel_rfl) (fun _ _ _ h => h) Tryd.underlying23 rfl (key_info b) t0 (fun _ h => h.hb) ?_
  refine callH (i := 1) (some 6) rfl (by kernel_rfl) rfl rfl (fun _ => by kernel_rfl) (load_any a ha _) ?_
  rintro e w1 ⟨m1, rfl, s1, l1⟩
  have t1 := t0.call l1
  refine ⟨_, rfl, t1, ?_⟩
  refine callH (i := 3) (some 8) rfl (by kernel_rfl) rfl rfl (fun _ => by kernel_rfl) (load_any b hb _) ?_
  rintro e w2 ⟨m2, rfl, s2, l2⟩
  have t2 := t1.call l2
  refine ⟨_, rfl, t2, ?_⟩
  refine callH (i := 4) (some 9) rfl (by kernel_rfl) rfl rfl (fun _ => by kernel_rfl) (product_any m1 m2 s1.1 s2.1 _) ?_
  rintro e w3 ⟨m3, rfl, s3, l3⟩
  have t3 := t2.call l3
  refine ⟨_, rfl, t3, ?_⟩
  refine callH (i := 5) (some 10) rfl (by kernel_rfl) rfl rfl (fun _ => by kernel_rfl) (save_any m3 s3.1 _ (hg.fr t3.fr)) ?_
  rintro e w4 ⟨f, rfl, s4, l4⟩
  have t4 := t3.call l4
  refine ⟨_, rfl, t4, ?_⟩
  refine storesH (i := 6) none rfl .u8 32 f (w.heap.size + 1 + 1) 23 _ _ (by kernel_rfl) rfl rfl rfl rfl rfl (key_there' t4.hr) (key_info' f) (t4.stored f) ?_
  refine wpAnyH_done (by kernel_rfl) ?_ _
  have hE : In 256 32 f ∧ val 256 f 32 = (val 256 a 32 * val 256 b 32) % Q := ⟨s4.1, by rw [s4.2, s3.2, s1.2, s2.2]⟩
  have HE := show Hid _ from hE
  clear hE s1 s2 s3 s4
  go_wp2
  exact bodyPost_ret (v := (.agg (row .u8 32 (f)).toArray)) (results_row Tryd.results15 rfl (Has.all t4.hr .u8 f).range Tryd.underlying23 rfl (key_info f)) rfl ⟨f, rfl, HE.out, (t4.stored f).fr.below⟩

set_option maxHeartbeats 2000000 in
theorem invert_any (a : Nat → Int) (ha : In 256 32 a) (w : World) (hg : Glob w) :
    Calls Tryd.prog 16 #[(.agg (row .u8 32 (a)).toArray)] w fun e w' => ∃ f : Nat → Int, e = .returned (.agg (row .u8 32 (f)).toArray) ∧ (In 256 32 f ∧ val 256 f 32 = val 256 a 32 ^ E % Q) ∧ Below w.heap.size w w' := by
  have a0 : Has ((w.alloc (.cells (row .u8 32 a).toArray 23)).alloc (.cells #[.int .u8 0, .int .u8 0, .int .u8 0, .int .u8 0, .int .u8 0, .int .u8 0, .int .u8 0, .int .u8 0, .int .u8 0, .int .u8 0, .int .u8 0, .int .u8 0, .int .u8 0, .int .u8 0, .int .u8 0, .int .u8 0, .int .u8 0, .int .u8 0, .int .u8 0, .int .u8 0, .int .u8 0, .int .u8 0, .int .u8 0, .int .u8 0, .int .u8 0, .int .u8 0, .int .u8 0, .int .u8 0, .int .u8 0, .int .u8 0, .int .u8 0, .int .u8 0] 23)) w.heap.size .u8 32 a := (Has.new w _ _ _ _ _ rfl).alloc _ (by simp)
  have z0 : Has ((w.alloc (.cells (row .u8 32 a).toArray 23)).alloc (.cells #[.int .u8 0, .int .u8 0, .int .u8 0, .int .u8 0, .int .u8 0, .int .u8 0, .int .u8 0, .int .u8 0, .int .u8 0, .int .u8 0, .int .u8 0, .int .u8 0, .int .u8 0, .int .u8 0, .int .u8 0, .int .u8 0, .int .u8 0, .int .u8 0, .int .u8 0, .int .u8 0, .int .u8 0, .int .u8 0, .int .u8 0, .int .u8 0, .int .u8 0, .int .u8 0, .int .u8 0, .int .u8 0, .int .u8 0, .int .u8 0, .int .u8 0, .int .u8 0] 23)) (w.heap.size + 1) .u8 32 (fun _ => 0) := key_zero _ _ _ (by simp)
  have g0 : Fr w 2 ((w.alloc (.cells (row .u8 32 a).toArray 23)).alloc (.cells #[.int .u8 0, .int .u8 0, .int .u8 0, .int .u8 0, .int .u8 0, .int .u8 0, .int .u8 0, .int .u8 0, .int .u8 0, .int .u8 0, .int .u8 0, .int .u8 0, .int .u8 0, .int .u8 0, .int .u8 0, .int .u8 0, .int .u8 0, .int .u8 0, .int .u8 0, .int .u8 0, .int .u8 0, .int .u8 0, .int .u8 0, .int .u8 0, .int .u8 0, .int .u8 0, .int .u8 0, .int .u8 0, .int .u8 0, .int .u8 0, .int .u8 0, .int .u8 0] 23)) := ((Fr.refl w).alloc _).alloc _
  go_enter Tryd.func16, Tryd.ntmps16
  go_wp2_with (refine wpList_load_mid rfl 23 _ rfl (w.heap.size) 0 rfl (row .u8 32 (a)) _ (Has.range (a0)) Tryd.underlying23 rfl (key_info _) ?_)
  refine (load_any a ha _).mono ?_
  rintro e w1 ⟨m, rfl, s1, l1⟩
  have g1 := g0.call l1
  have z1 := z0.call g0 l1 (by omega)
  have i1 := s1.1
  have H1 := show Hid _ from s1
  clear s1
  go_wp2_with fail
  refine (inverse_any m i1 _ (hg.fr g1)).mono ?_
  rintro e w2 ⟨m2, rfl, s2, l2⟩
  have g2 := g1.call l2
  have z2 := z1.call g1 l2 (by omega)
  have i2 := s2.1
  have H2 := show Hid _ from s2
  clear s2
  go_wp2_with fail
  refine (save_any m2 i2 _ (hg.fr g2)).mono ?_
  rintro e w3 ⟨f, rfl, s3, l3⟩
  have z3 := z2.call g2 l3 (by omega)
  have hE : In 256 32 f ∧ val 256 f 32 = val 256 a 32 ^ E % Q := ⟨s3.1, by rw [s3.2, H2.out.2, H1.out.2]⟩
  have HE := show Hid _ from hE
  clear hE s3
  go_wp2_with (refine wpList_store_mid rfl 23 _ _ rfl (w.heap.size + 1) 0 (row .u8 32 (f)).toArray rfl rfl (key_there (z3)) (key_info' _) (all_oneCell_toArray (row_one _ _ _)) ?_)
  exact bodyPost_ret (v := (.agg (row .u8 32 (f)).toArray)) (results_row Tryd.results16 rfl (Has.all z3.there .u8 f).range Tryd.underlying23 rfl (key_info f)) rfl ⟨f, rfl, HE.out, ((g2.call l3).setAll _ (by omega) _).below⟩

end Go.Proofs.YthephehecapmhabDoor
