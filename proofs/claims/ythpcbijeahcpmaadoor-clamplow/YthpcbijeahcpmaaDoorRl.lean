/- What the document's own Low answers. -/
import Derived.Test.YthpcbijeahcpmaaDoorRc
import Derived.Test.YthpcbijeahcpmaaDoorCv
import Derived.Test.YthpcbijeahcpmaaDoorCz
import Derived.Deep.QuietTactic
import Derived.BigQuiet
namespace Go.Proofs.YthpcbijeahcpmaaDoor
open Go.RowKit

/-- Behind k rounds of adding byte by byte. -/
structure LI (x s : Nat → Int) (X O : Nat) (k : Nat) (f : Nat → Int) (w w' : World) : Prop where
  done : ∀ j, j < k → f j = summ x s j
  hx : Has w' X .u8 17 x
  hs : Has w' (w.heap.size + 1) .u8 16 s
  ho : Has w' O .u8 16 f
  hr : w'.there (w.heap.size + 1 + 1) 0 16
  fr : Fr w 3 w'
theorem LI.step {x s : Nat → Int} {X O k : Nat} {f : Nat → Int} {w w' : World} (h : LI x s X O k f w w') (hk : k < 16) (lo : w.heap.size + 3 ≤ O) (ne : O ≠ X) : LI x s X O (k + 1) (upd f k (summ x s k)) w (w'.setCell ⟨O, k, none⟩ (.int .u8 (summ x s k))) := by
  refine ⟨fun j hj => ?_, h.hx.set_other _ _ (by simpa using ne), h.hs.set_other _ _ (by simp; omega), h.ho.set k hk _, fun j hj => ?_, h.fr.set _ _ (by simp; omega)⟩
  · by_cases e : j = k
    · subst e; rw [upd_same]
    · rw [upd_other _ _ _ _ e]; exact h.done j (by omega)
  · have hne : (⟨O, k, none⟩ : Addr) ≠ ⟨w.heap.size + 1 + 1, 0 + j, none⟩ := by intro h'; injection h'; omega
    show ((w'.setCell _ _).cell? _).isSome = true ∧ (w'.setCell _ _).frozen? _ = false
    rw [World.cell?_setCell_other _ _ _ _ hne, World.frozen?_setCell]; exact h.hr j hj
theorem LI.drewN {x s : Nat → Int} {X O k : Nat} {f : Nat → Int} {w w' : World} (h : LI x s X O k f w w') {q : Nat} : LI x s X O k f w (w'.drewN q) :=
  ⟨h.done, ⟨h.hx.cell, h.hx.free⟩, ⟨h.hs.cell, h.hs.free⟩, ⟨h.ho.cell, h.ho.free⟩, h.hr, ⟨below_drewN h.fr.below, h.fr.size⟩⟩

set_option maxRecDepth 10000 in
set_option maxHeartbeats 4000000 in
theorem refLow_any (a s : Nat → Int) (ha : In 256 17 a) (hs : In 256 16 s) (w : World) :
    Calls Tryd.prog 21 #[(.agg (row .u8 17 (a)).toArray), (.agg (row .u8 16 (s)).toArray)] w fun e w' => ∃ f : Nat → Int, e = .returned (.agg (row .u8 16 (f)).toArray) ∧ (In 256 16 f ∧ val 256 f 16 = (val 256 a 17 % Q + val 256 s 16) % 340282366920938463463374607431768211456) ∧ Below w.heap.size w w' := by
  have K := Kr.init w
  replace K := K.box .u8 17 a 28 w.heap.size rfl
  replace K := K.box .u8 16 s 23 (w.heap.size + 1) (by simp)
  replace K := K.make 16 #[.int .u8 0, .int .u8 0, .int .u8 0, .int .u8 0, .int .u8 0, .int .u8 0, .int .u8 0, .int .u8 0, .int .u8 0, .int .u8 0, .int .u8 0, .int .u8 0, .int .u8 0, .int .u8 0, .int .u8 0, .int .u8 0] 23 (w.heap.size + 1 + 1) (by simp) (tag_zero _ _ _ (by simp)).there
  go_enter Tryd.func21, Tryd.ntmps21
  go_upto_region 1 with fail
  generalize (((w.alloc (.cells (row .u8 17 a).toArray 28)).alloc (.cells (row .u8 16 s).toArray 23)).alloc (.cells #[.int .u8 0, .int .u8 0, .int .u8 0, .int .u8 0, .int .u8 0, .int .u8 0, .int .u8 0, .int .u8 0, .int .u8 0, .int .u8 0, .int .u8 0, .int .u8 0, .int .u8 0, .int .u8 0, .int .u8 0, .int .u8 0] 23)) = w0 at K ⊢
  refine wp_region_list ?_
  refine rowKL .u8 17 a w.heap.size 0 28 _ _ rfl rfl rfl Tryd.underlying28 rfl (big_info _) (K.get _ _ _ _ (List.mem_cons_of_mem _ List.mem_cons_self)).range ?_
  simp only [Act.put, List.setIfInBounds_toArray, List.set_cons_zero, List.set_cons_succ]
  refine callL rfl (fun _ => by kernel_rfl) (refCanon_any a ha _) ?_
  rintro e w1 ⟨x, rfl, sx, l⟩
  replace K := K.call l
  clear l
  refine ⟨_, rfl, ?_⟩
  simp only [Act.put, List.setIfInBounds_toArray, List.set_cons_zero, List.set_cons_succ]
  refine allocL #[.int .u8 0, .int .u8 0, .int .u8 0, .int .u8 0, .int .u8 0, .int .u8 0, .int .u8 0, .int .u8 0, .int .u8 0, .int .u8 0, .int .u8 0, .int .u8 0, .int .u8 0, .int .u8 0, .int .u8 0, .int .u8 0, .int .u8 0] 28 rfl (fun _ => by kernel_rfl) ?_
  simp only [Act.put, List.setIfInBounds_toArray, List.set_cons_zero, List.set_cons_succ]
  refine storesL .u8 17 x w1.heap.size 28 _ _ rfl rfl rfl rfl (room_of (big_zero _ _ _ rfl).there) (big_info' _) ?_
  simp only [Act.put]
  have s1 := K.size
  replace K := K.fresh .u8 17 x #[.int .u8 0, .int .u8 0, .int .u8 0, .int .u8 0, .int .u8 0, .int .u8 0, .int .u8 0, .int .u8 0, .int .u8 0, .int .u8 0, .int .u8 0, .int .u8 0, .int .u8 0, .int .u8 0, .int .u8 0, .int .u8 0, .int .u8 0] 28 (big_zero _ _ _ rfl).there
  generalize ((w1.alloc (.cells #[.int .u8 0, .int .u8 0, .int .u8 0, .int .u8 0, .int .u8 0, .int .u8 0, .int .u8 0, .int .u8 0, .int .u8 0, .int .u8 0, .int .u8 0, .int .u8 0, .int .u8 0, .int .u8 0, .int .u8 0, .int .u8 0, .int .u8 0] 28)).setCells w1.heap.size 0 (row .u8 17 x)) = w2 at K ⊢
  generalize w1.heap.size = X at *
  show Exit.then _ _ _ _ _
  go_upto_region 2 with fail
  refine wp_region_list ?_
  refine pureL (.agg (row .u8 16 (fun _ => 0)).toArray) rfl (fun _ => by kernel_rfl) ?_
  simp only [Act.put, List.setIfInBounds_toArray, List.set_cons_zero, List.set_cons_succ]
  refine allocL #[.int .u8 0, .int .u8 0, .int .u8 0, .int .u8 0, .int .u8 0, .int .u8 0, .int .u8 0, .int .u8 0, .int .u8 0, .int .u8 0, .int .u8 0, .int .u8 0, .int .u8 0, .int .u8 0, .int .u8 0, .int .u8 0] 23 rfl (fun _ => by kernel_rfl) ?_
  simp only [Act.put, List.setIfInBounds_toArray, List.set_cons_zero, List.set_cons_succ]
  refine storesL .u8 16 (fun _ => 0) w2.heap.size 23 _ _ rfl rfl rfl rfl (room_of (tag_zero _ _ _ rfl).there) (tag_info' _) ?_
  simp only [Act.put]
  have s2 := K.size
  replace K := K.fresh .u8 16 (fun _ => 0) #[.int .u8 0, .int .u8 0, .int .u8 0, .int .u8 0, .int .u8 0, .int .u8 0, .int .u8 0, .int .u8 0, .int .u8 0, .int .u8 0, .int .u8 0, .int .u8 0, .int .u8 0, .int .u8 0, .int .u8 0, .int .u8 0] 23 (tag_zero _ _ _ rfl).there
  generalize ((w2.alloc (.cells #[.int .u8 0, .int .u8 0, .int .u8 0, .int .u8 0, .int .u8 0, .int .u8 0, .int .u8 0, .int .u8 0, .int .u8 0, .int .u8 0, .int .u8 0, .int .u8 0, .int .u8 0, .int .u8 0, .int .u8 0, .int .u8 0] 23)).setCells w2.heap.size 0 (row .u8 16 (fun _ => 0))) = w3 at K ⊢
  generalize w2.heap.size = O at *
  show Exit.then _ _ _ _ _
  have hI0 : LI x s X O 0 (fun _ => 0) w w3 := ⟨fun j hj => by omega, K.get _ _ _ _ (List.mem_cons_of_mem _ List.mem_cons_self), K.get _ _ _ _ (List.mem_cons_of_mem _ (List.mem_cons_of_mem _ List.mem_cons_self)), K.get _ _ _ _ List.mem_cons_self, (K.room _ List.mem_cons_self).1, ⟨K.below, by have := K.size; omega⟩⟩
  have lo : w.heap.size + 3 ≤ O := by omega
  have ne : O ≠ X := by omega
  have hcr := carr_in x s 16 (fun j hj => sx.1 j (by omega)) hs
  have hx := fun j (hj : j < 16) => sx.1 j (by omega)
  have HC := show Hid _ from hcr
  have HX := show Hid _ from And.intro hx hs
  have HV := show Hid _ from sx
  clear K hcr hx sx s1 s2
  go_wp2
  go_loopw [7, 8] (fun r i w' => ∃ (k : Nat) (f : Nat → Int), k ≤ 16 ∧ i = .int .i64 k ∧ r = .int .i64 (carr x s k) ∧ LI x s X O k f w w') (fun _ i _ => 16 - (intOf i).toNat)
  case atStart => exact ⟨0, _, by omega, rfl, rfl, hI0⟩
  case round =>
    obtain ⟨k, f, hk, rfl, rfl, hI⟩ := hrel
    clear hI0
    by_cases hlt : k < 16
    · have c1 := hI.hx.cell k (by omega)
      have c2 := hI.hs.cell k hlt
      obtain ⟨r0, r1⟩ := HC.out k (by omega)
      obtain ⟨x0, x1⟩ := HX.out.1 k hlt
      obtain ⟨y0, y1⟩ := HX.out.2 k hlt
      have g1 : (0 : Int) ≤ (k : Int) := by omega
      have g2 : (k : Int) < 16 := by omega
      have g3 : (k : Int) < 17 := by omega
      have HS := show Hid _ from fun q => (hI.drewN (q := q)).step hlt lo ne
      have HN := show Hid (carr x s (k + 1) = (carr x s k + x k + s k) / 256) from rfl
      have HM := show Hid (summ x s k = (carr x s k + x k + s k) % 256) from rfl
      have c3 := hI.ho.cell k hlt
      have f3 := hI.ho.free k hlt
      clear hI
      generalize summ x s k = d at *
      generalize carr x s k = r at *
      generalize x k = u at *
      generalize s k = y at *
      generalize f k = z at *
      have v1 : IntKind.i64.wrap (r + u) = r + u := by rw [IntKind.wrap_i64]; omega
      have v2 : IntKind.i64.wrap (r + u + y) = r + u + y := by rw [IntKind.wrap_i64]; omega
      go_wp2
      go_quiet (fail)
      have c4 : (wr.drewN nq).cell? ⟨O, k, none⟩ = some (.int .u8 z) := c3
      have f4 : (wr.drewN nq).frozen? ⟨O, k, none⟩ = false := f3
      have HT := show Hid _ from HS.out nq
      clear HS c1 c2 c3 f3
      generalize wr.drewN nq = w4 at *
      go_wp2
      go_roundw
      case rel => exact ⟨k + 1, _, by omega, by go_num, by rw [HN.out], by have h := HT.out; rw [HM.out] at h; exact h⟩
      case measure => simp [intOf]; omega
    · obtain rfl : k = 16 := by omega
      have ho := hI.ho
      have hz := hI.hr
      have hE : In 256 16 f ∧ val 256 f 16 = (val 256 a 17 % Q + val 256 s 16) % 340282366920938463463374607431768211456 := by
        have hd : In 256 16 (summ x s) := fun j _ => by unfold summ; omega
        refine ⟨fun j hj => by rw [hI.done j hj]; exact hd j hj, ?_⟩
        rw [val_congr 256 16 (f := f) (g := summ x s) (fun j hj => hI.done j hj), ← HV.out.2]
        have v := summ_val x s 16
        have i := val_in 256 (by decide) (summ x s) 16 hd
        have e := low_val x HV.out.1
        rw [show (256 : Int) ^ 16 = 340282366920938463463374607431768211456 from by decide] at v i
        omega
      have HE := show Hid _ from hE
      have hL := (hI.fr.setAll (w.heap.size + 1 + 1) (by omega) (row .u8 16 f)).below
      clear hE hI hlt hk
      go_wp2_with (first | (refine wpList_load_mid rfl 23 _ rfl (O) 0 rfl (row .u8 16 (f)) _ (Has.range (ho)) Tryd.underlying23 rfl (tag_info _) ?_) | (refine wpList_store_mid rfl 23 _ _ rfl (w.heap.size + 1 + 1) 0 (row .u8 16 f).toArray rfl rfl (room_of hz) (tag_info' _) (all_oneCell_toArray (row_one _ _ _)) ?_))
      exact bodyPost_ret (v := (.agg (row .u8 16 (f)).toArray)) (results_row Tryd.results21 rfl (Has.all hz .u8 f).range Tryd.underlying23 rfl (tag_info f)) rfl ⟨f, rfl, HE.out, hL⟩
end Go.Proofs.YthpcbijeahcpmaaDoor
