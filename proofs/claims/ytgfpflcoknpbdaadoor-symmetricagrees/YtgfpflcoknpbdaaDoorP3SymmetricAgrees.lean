/- Texts of Ca Ct Float Cw Sr Cb Pa, joined. -/
import Derived.Test.YtgfpflcoknpbdaaDoorP2SymmetricAgrees
import Derived.BigRegion
import Derived.Test.YtgfpflcoknpbdaaDoorP1SymmetricAgrees
set_option maxRecDepth 20000
set_option maxHeartbeats 64000000
namespace Go.Proofs.YtgfpflcoknpbdaaDoor
open Go.RowKit
theorem cload_any (a : Nat → Int) (ha : In 256 17 a) (w : World) :
    Calls Tryd.prog 55 #[(.agg (row .u8 17 (a)).toArray)] w fun e w' => ∃ m : Nat → Int, e = .returned (.agg (row .u64 3 (m)).toArray) ∧ (Folded m ∧ val W m 3 % Q = val 256 a 17 % Q) ∧ Below w.heap.size w w' := by
  have K := Kr.init w
  replace K := K.box .u8 17 a 80 (w.heap.size) rfl
  replace K := K.make 3 #[.int .u64 0, .int .u64 0, .int .u64 0] 98 (w.heap.size + 1) (by simp) (cnum_zero _ _ _ (by simp)).there
  go_enter Tryd.func55, Tryd.ntmps55
  go_upto_region 1 with fail
  refine wp_region_list ?_
  refine rowKL .u8 17 (a) (w.heap.size) 0 80 _ _ rfl rfl rfl Tryd.underlying80 rfl (big_info _) (K.get _ _ _ _ mS).range ?_
  simp only [aP, lI, l0, lS]
  refine callL rfl (fun _ => by kernel_rfl) (split_any a ha _) ?_
  rintro e w1 ⟨m1, rfl, s1, l⟩
  replace K := K.call l
  clear l
  refine ⟨_, rfl, ?_⟩
  simp only [aP, lI, l0, lS]
  refine callL rfl (fun _ => by kernel_rfl) (cfold_any m1 s1.1 (by have := s1.2.1; omega) _) ?_
  rintro e w2 ⟨m, rfl, s2, l⟩
  replace K := K.call l
  clear l
  refine ⟨_, rfl, ?_⟩
  simp only [aP, lI, l0, lS]
  refine storesL .u64 3 m (w.heap.size + 1) 98 _ _ rfl rfl rfl rfl (K.roomy _ _ _ _ mS) (cnum_info' _) ?_
  simp only [Act.put]
  have HE := show Hid _ from (And.intro s2.1 (show val W m 3 % Q = val 256 a 17 % Q by rw [s2.2, s1.2.2]))
  have hz := (K.room _ mS).1
  have hB := (K.fill _ _ mS (row .u64 3 m)).below
  clear K s1 s2
  show Exit.then _ _ _ _ _
  go_wp2
  exact bodyPost_ret (v := (.agg (row .u64 3 (m)).toArray)) (results_row Tryd.results55 rfl (Has.all hz .u64 m).range Tryd.underlying98 rfl (cnum_info m)) rfl ⟨m, rfl, HE.out, hB⟩
theorem small136 (x : Int) : x % Q % 87112285931760246646623899502532662132736 = x % Q := by simp only [Q]; omega
theorem csave_any (n : Nat → Int) (hn : Folded n) (w : World) (hg : Glob w) :
    Calls Tryd.prog 53 #[(.agg (row .u64 3 (n)).toArray)] w fun e w' => ∃ f : Nat → Int, e = .returned (.agg (row .u8 17 (f)).toArray) ∧ (In 256 17 f ∧ val 256 f 17 = val W n 3 % Q) ∧ Below w.heap.size w w' := by
  have K := Kr.init w
  replace K := K.box .u64 3 n 98 (w.heap.size) rfl
  replace K := K.make 17 zu8_17 80 (w.heap.size + 1) (by simp) (big_zero _ _ _ (by simp)).there
  go_enter Tryd.func53, Tryd.ntmps53
  go_upto_region 1 with fail
  refine wp_region_list ?_
  refine rowKL .u64 3 (n) (w.heap.size) 0 98 _ _ rfl rfl rfl Tryd.underlying98 rfl (cnum_info _) (K.get _ _ _ _ mS).range ?_
  simp only [aP, lI, l0, lS]
  refine callL rfl (fun _ => by kernel_rfl) (cleast_any n hn.1 hn.2 _ (hg.below K.below hg.size)) ?_
  rintro e w1 ⟨m1, rfl, s1, l⟩
  replace K := K.call l
  clear l
  refine ⟨_, rfl, ?_⟩
  simp only [aP, lI, l0, lS]
  refine callL rfl (fun _ => by kernel_rfl) (join_any m1 _) ?_
  rintro e w2 ⟨rfl, l⟩
  replace K := K.call l
  clear l
  refine ⟨_, rfl, ?_⟩
  simp only [aP, lI, l0, lS]
  have s2 : In 256 17 (joinB m1) ∧ val 256 (joinB m1) 17 = val W n 3 % Q := ⟨joinB_in m1, by rw [joinB_val m1 s1.1, s1.2, small136]⟩
  generalize joinB m1 = f at *
  refine storesL .u8 17 f (w.heap.size + 1) 80 _ _ rfl rfl rfl rfl (K.roomy _ _ _ _ mS) (big_info' _) ?_
  simp only [Act.put]
  have HE := show Hid _ from s2
  have hz := (K.room _ mS).1
  have hB := (K.fill _ _ mS (row .u8 17 f)).below
  clear K s1 s2
  show Exit.then _ _ _ _ _
  go_wp2
  exact bodyPost_ret (v := (.agg (row .u8 17 (f)).toArray)) (results_row Tryd.results53 rfl (Has.all hz .u8 f).range Tryd.underlying80 rfl (big_info f)) rfl ⟨f, rfl, HE.out, hB⟩
theorem folded_small {n : Nat → Int} (h : Folded n) : 0 ≤ val W n 3 ∧ val W n 3 ≤ FB := ⟨(val_in W (by decide) n 3 h.1).1, h.2⟩
theorem top_small {n : Nat → Int} (h : In W 3 n) (hv : val W n 3 < 174224571863520493293247799005065324265472) : n 2 < 512 := by
  have v := v3 n
  have p0 := h 0 (by omega)
  have p1 := h 1 (by omega)
  generalize n 0 = x0 at *
  generalize n 1 = x1 at *
  generalize n 2 = x2 at *
  omega
theorem cadd_any (a b : Nat → Int) (ha : In 256 17 a) (hb : In 256 17 b) (w : World) (hg : Glob w) :
    Calls Tryd.prog 44 #[(.agg (row .u8 17 (a)).toArray), (.agg (row .u8 17 (b)).toArray)] w fun e w' => ∃ f : Nat → Int, e = .returned (.agg (row .u8 17 (f)).toArray) ∧ (In 256 17 f ∧ val 256 f 17 = (val 256 a 17 + val 256 b 17) % Q) ∧ Below w.heap.size w w' := by
  have K := Kr.init w
  replace K := K.box .u8 17 a 80 (w.heap.size) rfl
  replace K := K.box .u8 17 b 80 (w.heap.size + 1) (by simp)
  replace K := K.make 17 zu8_17 80 (w.heap.size + 1 + 1) (by simp) (big_zero _ _ _ (by simp)).there
  go_enter Tryd.func44, Tryd.ntmps44
  go_upto_region 1 with fail
  refine wp_region_held_drew (S := fun w' => Kr w _ [(w.heap.size + 1, .u8, 17, b), (w.heap.size, .u8, 17, a)] [(w.heap.size + 1 + 1, 17)] w') (by kernel_rfl) K.drew ?_
  clear K
  intro K
  refine rowKH (i := 0) (some 5) rfl .u8 17 (a) (w.heap.size) 0 80 _ _ rfl rfl rfl rfl (by kernel_rfl) (by kernel_rfl) (by kernel_rfl) (fun _ _ _ h => h) Tryd.underlying80 rfl (big_info _) K (fun _ h => (h.get _ _ _ _ (mT _ mS)).range) ?_
  simp only [aP, lI, l0, lS]
  refine rowKH (i := 2) (some 7) rfl .u8 17 (b) (w.heap.size + 1) 0 80 _ _ rfl rfl rfl rfl (by kernel_rfl) (by kernel_rfl) (by kernel_rfl) (fun _ _ _ h => h) Tryd.underlying80 rfl (big_info _) K (fun _ h => (h.get _ _ _ _ mS).range) ?_
  simp only [aP, lI, l0, lS]
  refine callH (i := 1) (some 6) rfl (by kernel_rfl) rfl rfl (fun _ => by kernel_rfl) (cload_any a ha _) ?_
  rintro e w1 ⟨m1, rfl, s1, l⟩
  replace K := K.call l
  clear l
  refine ⟨_, rfl, K, ?_⟩
  simp only [aP, lI, l0, lS]
  refine callH (i := 3) (some 8) rfl (by kernel_rfl) rfl rfl (fun _ => by kernel_rfl) (cload_any b hb _) ?_
  rintro e w2 ⟨m2, rfl, s2, l⟩
  replace K := K.call l
  clear l
  refine ⟨_, rfl, K, ?_⟩
  simp only [aP, lI, l0, lS]
  have z1 := folded_small s1.1
  have z2 := folded_small s2.1
  simp only [FB] at z1 z2
  refine callH (i := 4) (some 9) rfl (by kernel_rfl) rfl rfl (fun _ => by kernel_rfl) (plus_any m1 m2 s1.1.1 s2.1.1 (by rw [W3]; omega) _) ?_
  rintro e w3 ⟨m3, rfl, s3, l⟩
  replace K := K.call l
  clear l
  refine ⟨_, rfl, K, ?_⟩
  simp only [aP, lI, l0, lS]
  refine callH (i := 5) (some 10) rfl (by kernel_rfl) rfl rfl (fun _ => by kernel_rfl) (cfold_any m3 s3.1 (top_small s3.1 (by have := s3.2; omega)) _) ?_
  rintro e w4 ⟨m4, rfl, s4, l⟩
  replace K := K.call l
  clear l
  refine ⟨_, rfl, K, ?_⟩
  simp only [aP, lI, l0, lS]
  refine callH (i := 6) (some 11) rfl (by kernel_rfl) rfl rfl (fun _ => by kernel_rfl) (csave_any m4 s4.1 _ (hg.below K.below hg.size)) ?_
  rintro e w5 ⟨f, rfl, s5, l⟩
  replace K := K.call l
  clear l
  refine ⟨_, rfl, K, ?_⟩
  simp only [aP, lI, l0, lS]
  refine storesH (i := 7) none rfl .u8 17 f (w.heap.size + 1 + 1) 80 _ _ (by kernel_rfl) rfl rfl rfl rfl rfl (K.roomy _ _ _ _ mS) (big_info' _) (K.fill _ _ mS _) ?_
  refine wpAnyH_done (by kernel_rfl) ?_ _
  have HE := show Hid _ from (And.intro s5.1 (show val 256 f 17 = (val 256 a 17 + val 256 b 17) % Q by rw [s5.2, s4.2, s3.2, Int.add_emod, s1.2, s2.2, ← Int.add_emod]))
  have hz := (K.room _ mS).1
  have hB := (K.fill _ _ mS (row .u8 17 f)).below
  clear K s1 s2 s3 s4 s5 z1 z2
  go_wp2
  exact bodyPost_ret (v := (.agg (row .u8 17 (f)).toArray)) (results_row Tryd.results44 rfl (Has.all hz .u8 f).range Tryd.underlying80 rfl (big_info f)) rfl ⟨f, rfl, HE.out, hB⟩
theorem cmul_any (a b : Nat → Int) (ha : In 256 17 a) (hb : In 256 17 b) (w : World) (hg : Glob w) :
    Calls Tryd.prog 43 #[(.agg (row .u8 17 (a)).toArray), (.agg (row .u8 17 (b)).toArray)] w fun e w' => ∃ f : Nat → Int, e = .returned (.agg (row .u8 17 (f)).toArray) ∧ (In 256 17 f ∧ val 256 f 17 = (val 256 a 17 * val 256 b 17) % Q) ∧ Below w.heap.size w w' := by
  have K := Kr.init w
  replace K := K.box .u8 17 a 80 (w.heap.size) rfl
  replace K := K.box .u8 17 b 80 (w.heap.size + 1) (by simp)
  replace K := K.make 17 zu8_17 80 (w.heap.size + 1 + 1) (by simp) (big_zero _ _ _ (by simp)).there
  go_enter Tryd.func43, Tryd.ntmps43
  go_upto_region 1 with fail
  refine wp_region_held_drew (S := fun w' => Kr w _ [(w.heap.size + 1, .u8, 17, b), (w.heap.size, .u8, 17, a)] [(w.heap.size + 1 + 1, 17)] w') (by kernel_rfl) K.drew ?_
  clear K
  intro K
  refine rowKH (i := 0) (some 5) rfl .u8 17 (a) (w.heap.size) 0 80 _ _ rfl rfl rfl rfl (by kernel_rfl) (by kernel_rfl) (by kernel_rfl) (fun _ _ _ h => h) Tryd.underlying80 rfl (big_info _) K (fun _ h => (h.get _ _ _ _ (mT _ mS)).range) ?_
  simp only [aP, lI, l0, lS]
  refine rowKH (i := 2) (some 7) rfl .u8 17 (b) (w.heap.size + 1) 0 80 _ _ rfl rfl rfl rfl (by kernel_rfl) (by kernel_rfl) (by kernel_rfl) (fun _ _ _ h => h) Tryd.underlying80 rfl (big_info _) K (fun _ h => (h.get _ _ _ _ mS).range) ?_
  simp only [aP, lI, l0, lS]
  refine callH (i := 1) (some 6) rfl (by kernel_rfl) rfl rfl (fun _ => by kernel_rfl) (cload_any a ha _) ?_
  rintro e w1 ⟨m1, rfl, s1, l⟩
  replace K := K.call l
  clear l
  refine ⟨_, rfl, K, ?_⟩
  simp only [aP, lI, l0, lS]
  refine callH (i := 3) (some 8) rfl (by kernel_rfl) rfl rfl (fun _ => by kernel_rfl) (cload_any b hb _) ?_
  rintro e w2 ⟨m2, rfl, s2, l⟩
  replace K := K.call l
  clear l
  refine ⟨_, rfl, K, ?_⟩
  simp only [aP, lI, l0, lS]
  refine callH (i := 4) (some 9) rfl (by kernel_rfl) rfl rfl (fun _ => by kernel_rfl) (cproduct_any m1 m2 s1.1.1 s2.1.1 s1.1.2 s2.1.2 _) ?_
  rintro e w3 ⟨m3, rfl, s3, l⟩
  replace K := K.call l
  clear l
  refine ⟨_, rfl, K, ?_⟩
  simp only [aP, lI, l0, lS]
  refine callH (i := 5) (some 10) rfl (by kernel_rfl) rfl rfl (fun _ => by kernel_rfl) (csave_any m3 s3.1 _ (hg.below K.below hg.size)) ?_
  rintro e w5 ⟨f, rfl, s5, l⟩
  replace K := K.call l
  clear l
  refine ⟨_, rfl, K, ?_⟩
  simp only [aP, lI, l0, lS]
  refine storesH (i := 6) none rfl .u8 17 f (w.heap.size + 1 + 1) 80 _ _ (by kernel_rfl) rfl rfl rfl rfl rfl (K.roomy _ _ _ _ mS) (big_info' _) (K.fill _ _ mS _) ?_
  refine wpAnyH_done (by kernel_rfl) ?_ _
  have HE := show Hid _ from (And.intro s5.1 (show val 256 f 17 = (val 256 a 17 * val 256 b 17) % Q by rw [s5.2, s3.2, Int.mul_emod, s1.2, s2.2, ← Int.mul_emod]))
  have hz := (K.room _ mS).1
  have hB := (K.fill _ _ mS (row .u8 17 f)).below
  clear K s1 s2 s3 s5
  go_wp2
  exact bodyPost_ret (v := (.agg (row .u8 17 (f)).toArray)) (results_row Tryd.results43 rfl (Has.all hz .u8 f).range Tryd.underlying80 rfl (big_info f)) rfl ⟨f, rfl, HE.out, hB⟩
theorem tag_info (f : Nat → Int) : (Tryd.prog.info? 42).map (·.size) = some (row .u8 16 f).length := by rw [row_length]; kernel_rfl
theorem tag_info' (f : Nat → Int) : (Tryd.prog.info? 42).map (·.size) = some (row .u8 16 f).toArray.size := by rw [List.size_toArray]; exact tag_info f
theorem tag_there {w : World} {b : Nat} {f g : Nat → Int} (h : Has w b .u8 16 f) : w.there b 0 (row .u8 16 g).toArray.size := by rw [List.size_toArray, row_length]; exact h.there
theorem tag_zero (w : World) (t : TypeId) (b : Nat) (hb : b = w.heap.size) : Has (w.alloc (.cells zu8_16 t)) b .u8 16 (fun _ => 0) := Has.new w .u8 16 (fun _ => 0) t b hb
def trimT (r : Nat → Int) : Nat → Int := fun j => if j % 4 = 3 then r j % 16 else if j % 4 = 0 ∧ 0 < j then r j / 4 * 4 else r j
theorem trimT_in (r : Nat → Int) (h : In 256 16 r) : In 256 16 (trimT r) := fun j hj => by
  have := h j hj
  unfold trimT
  split
  · omega
  · split
    · omega
    · exact this
theorem and_15 : ∀ x : Fin 256, bits BinOp.and IntKind.u8 (x.val : Int) 15 = (x.val : Int) % 16 := by decide +kernel
theorem and_252 : ∀ x : Fin 256, bits BinOp.and IntKind.u8 (x.val : Int) 252 = (x.val : Int) / 4 * 4 := by decide +kernel
theorem and_255 : ∀ x : Fin 256, bits BinOp.and IntKind.u8 (x.val : Int) 255 = (x.val : Int) := by decide +kernel
theorem and15 (x : Int) (h : 0 ≤ x ∧ x < 256) : bits BinOp.and IntKind.u8 x 15 = x % 16 := by
  obtain ⟨n, rfl⟩ := Int.eq_ofNat_of_zero_le h.1
  exact and_15 ⟨n, by omega⟩
theorem and252 (x : Int) (h : 0 ≤ x ∧ x < 256) : bits BinOp.and IntKind.u8 x 252 = x / 4 * 4 := by
  obtain ⟨n, rfl⟩ := Int.eq_ofNat_of_zero_le h.1
  exact and_252 ⟨n, by omega⟩
theorem and255 (x : Int) (h : 0 ≤ x ∧ x < 256) : bits BinOp.and IntKind.u8 x 255 = x := by
  obtain ⟨n, rfl⟩ := Int.eq_ofNat_of_zero_le h.1
  exact and_255 ⟨n, by omega⟩
theorem and_kept (r : Nat → Int) (h : In 256 16 r) (j : Nat) (hj : j < 16) : bits BinOp.and IntKind.u8 (r j) (keptB j) = trimT r j := by
  have hr := h j hj
  by_cases a : j % 4 = 3
  · have e1 : keptB j = 15 := by unfold keptB; rw [if_pos (by omega)]
    have e2 : trimT r j = r j % 16 := by unfold trimT; rw [if_pos a]
    rw [e1, e2, and15 _ hr]
  · by_cases b : j % 4 = 0 ∧ 0 < j
    · have e1 : keptB j = 252 := by unfold keptB; rw [if_neg (by omega), if_pos (by omega)]
      have e2 : trimT r j = r j / 4 * 4 := by unfold trimT; rw [if_neg a, if_pos b]
      rw [e1, e2, and252 _ hr]
    · have e1 : keptB j = 255 := by unfold keptB; rw [if_neg (by omega), if_neg (by omega)]
      have e2 : trimT r j = r j := by unfold trimT; rw [if_neg a, if_neg b]
      rw [e1, e2, and255 _ hr]
structure TInv (r g : Nat → Int) (w : World) (k : Nat) (f : Nat → Int) (w' : World) : Prop where
  done : ∀ j, j < k → f j = g j
  rest : ∀ j, k ≤ j → f j = r j
  ha : Has w' w.heap.size .u8 16 f
  hr : Has w' (w.heap.size + 1) .u8 16 (fun _ => 0)
  fr : Fr w 2 w'
theorem TInv.step {r g : Nat → Int} {w : World} {k : Nat} {f : Nat → Int} {w' : World} (h : TInv r g w k f w') (hk : k < 16) : TInv r g w (k + 1) (upd f k (g k)) (w'.setCell ⟨w.heap.size, k, none⟩ (.int .u8 (g k))) := by
  refine ⟨fun j hj => ?_, fun j hj => ?_, h.ha.set k hk _, h.hr.set_other _ _ (by simp), h.fr.set _ _ (by simp)⟩
  · by_cases e : j = k
    · subst e; rw [upd_same]
    · rw [upd_other _ _ _ _ e]; exact h.done j (by omega)
  · rw [upd_other _ _ _ _ (by omega)]; exact h.rest j (by omega)
theorem TInv.drew {r g : Nat → Int} {w : World} {k : Nat} {f : Nat → Int} {w' : World} (h : TInv r g w k f w') : TInv r g w k f w'.drew := ⟨h.done, h.rest, h.ha.drew, h.hr.drew, h.fr.drew⟩
theorem ctrim_any (r : Nat → Int) (hr : In 256 16 r) (w : World) (hg : Glob w) :
    Calls Tryd.prog 52 #[(.agg (row .u8 16 (r)).toArray)] w fun e w' => e = .returned (.agg (row .u8 16 (trimT r)).toArray) ∧ Below w.heap.size w w' := by
  go_enter Tryd.func52, Tryd.ntmps52
  go_wp2
  go_loopw [4] (fun i w' => ∃ (k : Nat) (f : Nat → Int), k ≤ 16 ∧ i = .int .i64 k ∧ TInv r (trimT r) w k f w') (fun i _ => 16 - (intOf i).toNat)
  case atStart => exact ⟨0, r, by omega, rfl, ⟨fun j hj => by omega, fun _ _ => rfl, (Has.new w _ _ _ _ _ rfl).alloc _ (by simp), tag_zero _ _ _ (by simp), ((Fr.refl w).alloc _).alloc _⟩⟩
  case round =>
    obtain ⟨k, f, hk, rfl, hI⟩ := hrel
    by_cases hlt : k < 16
    · have hS := (hI.step hlt).drew
      have hb := and_kept r hr k hlt
      rw [← hI.rest k (Nat.le_refl k)] at hb
      rw [← hb] at hS
      have HS := show Hid _ from hS
      have c1 := hI.ha.cell k hlt
      have c2 := (hg.fr hI.fr).kept k hlt
      have f1 := hI.ha.free k hlt
      have g1 : (0 : Int) ≤ (k : Int) := by omega
      have g2 : (k : Int) < 16 := by omega
      clear hI hS hb
      generalize f k = x at *
      generalize keptB k = y at *
      go_wp2
      go_region
      go_wp2
      go_roundw
      case rel => exact ⟨k + 1, _, by omega, by go_num, HS.out⟩
      case measure => simp [intOf]; omega
    · obtain rfl : k = 16 := by omega
      have ha := hI.ha.congr (g := trimT r) (fun j hj => hI.done j hj)
      have hz := hI.hr
      have hB := (hI.fr.setAll (w.heap.size + 1) (by omega) (row .u8 16 (trimT r))).below
      clear hI hlt hk
      go_wp2_with (first | (refine wpList_load_mid rfl 42 _ rfl (w.heap.size) 0 rfl (row .u8 16 (trimT r)) _ (Has.range (ha)) Tryd.underlying42 rfl (tag_info _) ?_) | (refine wpList_store_mid rfl 42 _ _ rfl (w.heap.size + 1) 0 (row .u8 16 (trimT r)).toArray rfl rfl (tag_there (hz)) (tag_info' _) (all_oneCell_toArray (row_one _ _ _)) ?_))
      exact bodyPost_ret (v := (.agg (row .u8 16 (trimT r)).toArray)) (results_row Tryd.results52 rfl (Has.all hz.there .u8 _).range Tryd.underlying42 rfl (tag_info _)) rfl ⟨rfl, hB⟩
section
structure Fb (n w0 B : Nat) (w : World) : Prop where
  lo : w0 ≤ B
  hi : B < w.heap.size
  th : w.there B 0 n
theorem Fb.call {n w0 B : Nat} {w w' : World} (h : Fb n w0 B w) (l : Below w.heap.size w w') : Fb n w0 B w' := ⟨h.lo, Nat.lt_of_lt_of_le h.hi l.size, there_below h.th l h.hi⟩
theorem Kr.land {w w' : World} {m : Nat} {l : List (Nat × IntKind × Nat × (Nat → Int))} {R : List (Nat × Nat)} (h : Kr w m l R w') {n B : Nat} (b : Fb n m B w') (k : IntKind) (f : Nat → Int) :
    Kr w w'.heap.size ((B, k, n, f) :: l) R (w'.setCells B 0 (row k n f)) := by
  have hc := h.past B b.lo (row k n f)
  have i1 := b.hi
  have j1 := b.lo
  refine ⟨fun p hp => ?_, fun q hq => ⟨(hc.room q hq).1, Nat.lt_of_lt_of_le (hc.room q hq).2.1 h.size, (hc.room q hq).2.2⟩, fun p hp q hq => ?_, by rw [size_setAll]; exact Nat.le_refl _, Nat.le_trans h.base h.size, hc.below⟩
  · rcases List.mem_cons.1 hp with rfl | hp
    · exact ⟨Has.all b.th k f, i1⟩
    · exact ⟨(hc.rows p hp).1, Nat.lt_of_lt_of_le (h.rows p hp).2 h.size⟩
  · have := (h.room q hq).2.1
    rcases List.mem_cons.1 hp with rfl | hp
    · simp only; omega
    · exact h.apart p hp q hq
section
variable {P : Program} {ops : Array Oper} {Q : Exit → Act → World → Prop} {md : Region.Mode} {S : World → Prop}
theorem callOp {i : Nat} {oi : Oper} {f : FuncId} {args : Array Value} {R : Ending → World → Prop} {K : Act → World → Prop} {a : Act} {w : World} (hi : ops[i]? = some oi) (hg : oi.guard = none) (he : (execOp a.eval oi).run P w = .ok (.enter f args) w)
    (hc : Calls P f args w R) (hK : ∀ e w', R e w' → ∃ v, e = .returned v ∧ K (a.put oi.dst v) w') : wpOp P ops Q i K a w := by
  have hw : Region.wanted oi (yielded ops a.tmps) = true := by unfold Region.wanted; rw [hg]
  unfold wpOp
  simp only [hi, hw, if_true]
  refine .inl ?_
  unfold Oper.wp
  rw [he]
  exact hc.mono fun e w' hR => by
    obtain ⟨v, rfl, h⟩ := hK e w' hR
    exact h
theorem allocOp {i : Nat} {oi : Oper} {v : Value} {K : Act → World → Prop} {a : Act} {w w' : World} (hi : ops[i]? = some oi) (hg : oi.guard = none) (he : (execOp a.eval oi).run P w = .ok (.value v) w')
    (h : K (a.put oi.dst v) w') : wpOp P ops Q i K a w := by
  have hw : Region.wanted oi (yielded ops a.tmps) = true := by unfold Region.wanted; rw [hg]
  unfold wpOp
  simp only [hi, hw, if_true]
  refine .inl ?_
  unfold Oper.wp
  rw [he]
  exact h
theorem wpAnyH_cast {fuel : Nat} {l l' : Array Bool} {a a' : Act} {w : World} (h : wpAnyH P md ops Q S fuel l a w) (el : l' = l) (ea : a' = a) : wpAnyH P md ops Q S fuel l' a' w := by subst el ea; exact h
theorem eval_one {a : Act} {o : Oper} (x : Tmp) (u : Value) (hs : ∀ cs b, o.op ≠ .select cs b) (h1 : x ∉ o.looksAt ops) : execOp (a.put (some x) u).eval o = execOp a.eval o :=
  execOp_put (ops := ops) o hs _ _ _ (fun d hd => by injection hd with hd; subst hd; exact h1)
theorem put_comm' (a : Act) {x y : Tmp} (v u : Value) (h : x ≠ y) : (a.put (some x) v).put (some y) u = (a.put (some y) u).put (some x) v :=
  Act.put_comm a v u (fun d hd e => by injection hd with hd; injection e with e; exact h (hd.trans e.symm))
def Chain (P : Program) (ops : Array Oper) (Q : Exit → Act → World → Prop) (md : Region.Mode) (S : World → Prop) (z : Nat) (t : Tmp) (n w0 fuel : Nat) : Nat → Array Bool → Act → Prop
  | 0, L, a => Region.ready md ops L = [z] ∧ ∀ B w, S w → Fb n w0 B w → wpAnyH P md ops Q S fuel (L.setIfInBounds z true) (a.put (some t) (.pointer (some ⟨B, 0, none⟩))) w
  | k + 1, L, a => ∃ (c : Nat) (r : Tmp) (x : Oper) (f : FuncId) (g : Array Value) (V : Value → Prop), Region.ready md ops L = [c, z] ∧ Region.ready md ops (L.setIfInBounds z true) = [c] ∧ ops[c]? = some x ∧ x.guard = none ∧ x.dst = some r ∧ z ≠ c ∧ t ≠ r ∧ (∀ cs b, x.op ≠ .select cs b) ∧ t ∉ x.looksAt ops ∧ (∀ w, (execOp a.eval x).run P w = .ok (.enter f g) w) ∧
      (∀ w, S w → Calls P f g w fun e w' => ∃ v, e = .returned v ∧ V v ∧ Below w.heap.size w w') ∧ ∀ v, V v → Chain P ops Q md S z t n w0 fuel k (L.setIfInBounds c true) (a.put (some r) v)
theorem Chain.last {z : Nat} {t : Tmp} {n w0 fuel : Nat} {L : Array Bool} {a : Act} (hr : Region.ready md ops L = [z]) (h : ∀ B w, S w → Fb n w0 B w → wpAnyH P md ops Q S fuel (L.setIfInBounds z true) (a.put (some t) (.pointer (some ⟨B, 0, none⟩))) w) : Chain P ops Q md S z t n w0 fuel 0 L a := ⟨hr, h⟩
theorem Chain.call {z : Nat} {t : Tmp} {n w0 fuel k : Nat} {L : Array Bool} {a : Act} (c : Nat) (r : Tmp) {x : Oper} {f : FuncId} {g : Array Value} (V : Value → Prop) (hr : Region.ready md ops L = [c, z]) (hr' : Region.ready md ops (L.setIfInBounds z true) = [c]) (hx : ops[c]? = some x) (hg : x.guard = none) (hd : x.dst = some r)
    (hz : z ≠ c) (ht : t ≠ r) (hs : ∀ cs b, x.op ≠ .select cs b) (hl : t ∉ x.looksAt ops) (he : ∀ w, (execOp a.eval x).run P w = .ok (.enter f g) w)
    (hc : ∀ w, S w → Calls P f g w fun e w' => ∃ v, e = .returned v ∧ V v ∧ Below w.heap.size w w') (h : ∀ v, V v → Chain P ops Q md S z t n w0 fuel k (L.setIfInBounds c true) (a.put (some r) v)) : Chain P ops Q md S z t n w0 fuel (k + 1) L a :=
  ⟨c, r, x, f, g, V, hr, hr', hx, hg, hd, hz, ht, hs, hl, he, hc, h⟩
theorem Chain.made {z : Nat} {t : Tmp} {n w0 fuel k : Nat} {L : Array Bool} {a : Act} (h : Chain P ops Q md S z t n w0 fuel k L a) (hSc : ∀ w w', S w → Below w.heap.size w w' → S w') :
    ∀ B w, S w → Fb n w0 B w → wpAnyH P md ops Q S (fuel + k) (L.setIfInBounds z true) (a.put (some t) (.pointer (some ⟨B, 0, none⟩))) w := by
  induction k generalizing L a with
  | zero => exact fun B w hS hB => h.2 B w hS hB
  | succ k ih =>
    obtain ⟨c, r, x, f, g, V, _, hr', hx, hg, hd, hz, ht, hs, hl, he, hc, h'⟩ := h
    intro B w hS hB
    refine wpAnyH_all hr' (by simp) fun j hj => ?_
    obtain rfl := List.mem_singleton.1 hj
    refine callOp hx hg (by rw [eval_one (ops := ops) t _ hs hl]; exact he w) (hc w hS) fun e w' hR => ?_
    obtain ⟨v, rfl, hv, l⟩ := hR
    have hs1 := hSc _ _ hS l
    refine ⟨v, rfl, hs1, ?_⟩
    rw [hd]
    refine wpAnyH_cast (ih (h' v hv) B w' hs1 (hB.call l)) ?_ ?_
    · rw [Array.setIfInBounds_comm _ _ hz]
    · rw [put_comm' _ _ _ ht]
theorem Chain.go {z : Nat} {t : Tmp} {n w0 fuel k : Nat} {L : Array Bool} {a : Act} (h : Chain P ops Q md S z t n w0 fuel k L a) {xz : Oper} (cs : Array Value) (ty : TypeId) (iz : ops[z]? = some xz) (gz : xz.guard = none) (dz : xz.dst = some t)
    (ez : ∀ (b : Act) (w : World), (execOp b.eval xz).run P w = .ok (.value (.pointer (some ⟨w.heap.size, 0, none⟩))) (w.alloc (.cells cs ty)))
    (hn : ∀ w : World, (w.alloc (.cells cs ty)).there w.heap.size 0 n) (hS0 : ∀ w, S w → w0 ≤ w.heap.size) (hSc : ∀ w w', S w → Below w.heap.size w w' → S w') :
    ∀ w, S w → wpAnyH P md ops Q S (fuel + k + 1) L a w := by
  have hSa : ∀ w : World, S w → S (w.alloc (.cells cs ty)) := fun w h => hSc w _ h ((Below.refl w.heap.size w).alloc (Nat.le_refl _) _)
  have hNew : ∀ w : World, S w → Fb n w0 w.heap.size (w.alloc (.cells cs ty)) := fun w h => ⟨hS0 w h, by simp, hn w⟩
  induction k generalizing L a with
  | zero =>
    intro w hS
    refine wpAnyH_all h.1 (by simp) fun j hj => ?_
    obtain rfl := List.mem_singleton.1 hj
    refine allocOp iz gz (ez _ w) ?_
    rw [dz]
    exact ⟨hSa _ hS, h.2 _ _ (hSa _ hS) (hNew _ hS)⟩
  | succ k ih =>
    obtain ⟨c, r, x, f, g, V, hr, hr', hx, hg, hd, hz, ht, hs, hl, he, hc, h'⟩ := h
    intro w hS
    refine wpAnyH_all hr (by simp) fun j hj => ?_
    simp only [List.mem_cons, List.not_mem_nil, or_false] at hj
    rcases hj with rfl | rfl
    · refine callOp hx hg (he w) (hc w hS) fun e w' hR => ?_
      obtain ⟨v, rfl, hv, l⟩ := hR
      have hs1 := hSc _ _ hS l
      refine ⟨v, rfl, hs1, ?_⟩
      rw [hd]
      exact ih (h' v hv) w' hs1
    · refine allocOp iz gz (ez _ w) ?_
      rw [dz]
      exact ⟨hSa _ hS, Chain.made (Chain.call c r V hr hr' hx hg hd hz ht hs hl he hc h') hSc _ _ (hSa _ hS) (hNew _ hS)⟩
theorem actH {i : Nat} {oi : Oper} (dst : Option Tmp) (hdst : oi.dst = dst) {fuel : Nat} {listed : Array Bool} {a : Act} {w w' : World} (v : Value) (hr : Region.ready md ops listed = [i]) (hi : ops[i]? = some oi)
    (hw : Region.wanted oi (yielded ops a.tmps) = true) (he : (execOp a.eval oi).run P w = .ok (.value v) w') (hS : S w')
    (h : wpAnyH P md ops Q S fuel (listed.setIfInBounds i true) (a.put dst v) w') : wpAnyH P md ops Q S (fuel + 1) listed a w :=
  ⟨fun h0 => (by rw [h0] at hr; cases hr), fun j hj => by
    rw [hr] at hj
    obtain rfl := List.mem_singleton.1 hj
    unfold wpOp
    simp only [hi, hw, if_true]
    refine .inl ?_
    unfold Oper.wp
    rw [he]
    subst hdst
    exact ⟨hS, h⟩⟩
theorem actL {o : Oper} {rest : List Oper} {a : Act} {w w' : World} (v : Value) (hw : Region.wanted o (yielded ops a.tmps) = true) (he : (execOp a.eval o).run P w = .ok (.value v) w')
    (h : wpList P ops Q rest (a.put o.dst v) w') : wpList P ops Q (o :: rest) a w := by
  unfold wpList
  rw [if_pos hw]
  refine .inl ?_
  unfold Oper.wp
  rw [he]
  exact h
theorem run_copy {o : Oper} {a : Act} {w : World} (d s : Operand) (dT sT elem : TypeId) (ho : o.op = .call { callee := .builtin .copy, args := #[d, s], argTypes := #[dT, sT] }) (hu : P.underlying dT = some (.slice elem)) (hsz : (P.info? elem).map (·.size) = some 1)
    (b dLen dCap c co sLen sCap m n : Nat) (k : IntKind) (f g : Nat → Int) (hd : a.eval d = .slice (some ⟨b, 0, none⟩) dLen dCap) (hs : a.eval s = .slice (some ⟨c, co, none⟩) sLen sCap) (hm : m = Nat.min sLen dLen) (hmn : m ≤ n) (hb : w.there b 0 n)
    (hc : ∀ j, j < m → w.cell? ⟨c, co + j, none⟩ = some (.int k (f (co + j)))) (hg : ∀ j, j < m → f (co + j) = g j) :
    (execOp a.eval o).run P w = .ok (.value (.int .i64 (m : Int))) (w.setCells b 0 (row k m g)) := by
  have hrun := run_copy_cells (P := P) w dT sT o.type elem b 0 dLen dCap ⟨c, co, none⟩ sLen sCap (row k m g) hu hsz (by rw [row_length]; exact hm) (fun j v hv => by
    obtain ⟨hj, rfl⟩ := row_get_some hv
    rw [Addr.add_mid, hc j hj, hg j hj]) (fun j hj => by rw [row_length] at hj; exact (hb j (by omega)).1) (fun j hj => by rw [row_length] at hj; exact (hb j (by omega)).2) (row_one k m g)
  rw [row_length] at hrun
  simp [execOp, ho, resolve, invoke, builtin, hd, hs, hrun, Result.andThen, goInt]
end
end
def clowB (s : Nat → Int) : Nat → Int := over (fun _ => 0) 0 16 s
theorem lowB_in (s : Nat → Int) (h : In 256 16 s) : In 256 17 (clowB s) := over_in (fun _ _ => ⟨Int.le_refl 0, (by decide : (0 : Int) < 256)⟩) h
theorem lowB_val (s : Nat → Int) : val 256 (clowB s) 17 = val 256 s 16 := by
  have e : val 256 (clowB s) 17 = val 256 (clowB s) 16 + 256 ^ 16 * clowB s 16 := rfl
  have e1 : clowB s 16 = 0 := by unfold clowB over; rw [if_neg (by omega)]
  have e2 : val 256 (clowB s) 16 = val 256 s 16 := val_congr 256 16 fun j hj => by unfold clowB over; rw [if_pos (by omega), Nat.sub_zero]
  rw [e, e1, e2, Int.mul_zero, Int.add_zero]
theorem low_val (f : Nat → Int) (h : In 256 17 f) : val 256 f 16 = val 256 f 17 % 340282366920938463463374607431768211456 := by
  have e : val 256 f 17 = val 256 f 16 + 256 ^ 16 * f 16 := rfl
  have i := val_in 256 (by decide) f 16 (fun j hj => h j (by omega))
  rw [show (256 : Int) ^ 16 = 340282366920938463463374607431768211456 from by decide] at e i
  omega
theorem clow_any (a s : Nat → Int) (ha : In 256 17 a) (hs : In 256 16 s) (w : World) (hg : Glob w) :
    Calls Tryd.prog 46 #[(.agg (row .u8 17 (a)).toArray), (.agg (row .u8 16 (s)).toArray)] w fun e w' => ∃ f : Nat → Int, e = .returned (.agg (row .u8 16 (f)).toArray) ∧ (In 256 16 f ∧ val 256 f 16 = (val 256 a 17 % Q + val 256 s 16) % 340282366920938463463374607431768211456) ∧ Below w.heap.size w w' := by
  have K := Kr.init w
  replace K := K.box .u8 17 a 80 w.heap.size rfl
  replace K := K.box .u8 16 s 42 (w.heap.size + 1) (by simp)
  replace K := K.make 16 zu8_16 42 (w.heap.size + 1 + 1) (by simp) (tag_zero _ _ _ (by simp)).there
  go_enter Tryd.func46, Tryd.ntmps46
  go_upto_region 1 with fail
  generalize (((w.alloc (.cells (row .u8 17 a).toArray 80)).alloc (.cells (row .u8 16 s).toArray 42)).alloc (.cells zu8_16 42)) = w1 at K ⊢
  have s1 := K.size
  have H := big_zero w1 80 w1.heap.size rfl
  replace K := K.make 17 zu8_17 80 w1.heap.size rfl H.there
  go_upto_region 2 with fail
  generalize w1.alloc (.cells zu8_17 80) = w2 at K H ⊢
  generalize w1.heap.size = O at *
  clear w1
  refine wp_region_held_drew (S := fun w' => Kr w _ [(w.heap.size + 1, .u8, 16, s), (w.heap.size, .u8, 17, a)] [(O, 17), (w.heap.size + 1 + 1, 16)] w') (by kernel_rfl) K.drew ?_
  clear K
  intro K
  replace H := H.drew
  refine pureHg (i := 0) (some 9) rfl (.slice (some ⟨O, 0, none⟩) 17 17) rfl rfl (fun _ => by kernel_rfl) K ?_
  simp only [aP, lI, l0, lS]
  refine pureHg (i := 1) (some 10) rfl (.slice (some ⟨w.heap.size + 1, 0, none⟩) 16 16) rfl rfl (fun _ => by kernel_rfl) K ?_
  simp only [aP, lI, l0, lS]
  refine actH (i := 2) (some 11) rfl (.int .i64 ((16 : Nat) : Int)) (by kernel_rfl) rfl rfl (run_copy _ _ 27 27 5 rfl Tryd.underlying27 (by kernel_rfl) O 17 17 (w.heap.size + 1) 0 16 16 16 17 .u8 s s rfl rfl rfl (by omega) H.there (fun j hj => (K.get _ _ _ _ mS).cell (0 + j) (by omega)) (fun j _ => by rw [Nat.zero_add])) (K.fill O 17 mS _) ?_
  simp only [aP, lI, l0, lS]
  refine wpAnyH_done (by kernel_rfl) ?_ _
  replace K := (K.fill O 17 mS (row .u8 16 s)).settle [(w.heap.size + 1 + 1, 16)] O .u8 17 (clowB s) mS (fun q hq => mT _ hq) (List.forall_mem_cons.2 ⟨by show w.heap.size + 1 + 1 ≠ O; omega, List.forall_mem_nil _⟩) (H.part 0 16 (by omega) s)
  clear H
  generalize (w2.drew.setCells O 0 (row .u8 16 s)) = w3 at K ⊢
  clear w2
  go_upto_region 3 with fail
  refine wp_region_held_drew (S := fun w' => Kr w _ [(O, .u8, 17, clowB s), (w.heap.size + 1, .u8, 16, s), (w.heap.size, .u8, 17, a)] [(w.heap.size + 1 + 1, 16)] w') (by kernel_rfl) K.drew ?_
  clear K
  intro K
  refine rowKH (i := 0) (some 12) rfl .u8 17 a w.heap.size 0 80 _ _ rfl rfl rfl rfl (by kernel_rfl) (by kernel_rfl) (by kernel_rfl) (fun _ _ _ h => h) Tryd.underlying80 rfl (big_info _) K (fun _ h => (h.get _ _ _ _ (mT _ (mT _ mS))).range) ?_
  simp only [aP, lI, l0, lS]
  refine rowKH (i := 3) (some 15) rfl .u8 17 (clowB s) O 0 80 _ _ rfl rfl rfl rfl (by kernel_rfl) (by kernel_rfl) (by kernel_rfl) (fun _ _ _ h => h) Tryd.underlying80 rfl (big_info _) K (fun _ h => (h.get _ _ _ _ mS).range) ?_
  simp only [aP, lI, l0, lS]
  refine Chain.go (z := 6) (t := 6) (n := 3) (w0 := O + 1) (k := 4) ?_ #[.int .u64 0, .int .u64 0, .int .u64 0] 98 rfl rfl rfl (fun _ _ => by kernel_rfl) (fun _ => (cnum_zero _ _ _ rfl).there) (fun _ h => h.size) (fun _ _ h l => h.call l) _ K
  refine Chain.call 1 13 (fun v => ∃ m, v = (.agg (row .u64 3 (m)).toArray) ∧ Folded m ∧ val W m 3 % Q = val 256 a 17 % Q) (by kernel_rfl) (by kernel_rfl) rfl rfl rfl (by decide) (by decide) (by intros; simp) (by decide +kernel) (fun _ => by kernel_rfl) (fun w' _ => (cload_any a ha w').mono fun e w'' ⟨m, he, hm, l⟩ => ⟨_, he, ⟨m, rfl, hm⟩, l⟩) ?_
  rintro _ ⟨m1, rfl, t1⟩
  simp only [aP, lI, l0, lS]
  refine Chain.call 2 14 (fun v => ∃ m, v = (.agg (row .u64 3 (m)).toArray) ∧ In W 3 m ∧ val W m 3 = val W m1 3 % Q) (by kernel_rfl) (by kernel_rfl) rfl rfl rfl (by decide) (by decide) (by intros; simp) (by decide +kernel) (fun _ => by kernel_rfl) (fun w' h => (cleast_any m1 t1.1.1 t1.1.2 w' (hg.below h.below hg.size)).mono fun e w'' ⟨m, he, hm, l⟩ => ⟨_, he, ⟨m, rfl, hm⟩, l⟩) ?_
  rintro _ ⟨m2, rfl, t2⟩
  simp only [aP, lI, l0, lS]
  refine Chain.call 4 16 (fun v => ∃ m, v = (.agg (row .u64 3 (m)).toArray) ∧ In W 3 m ∧ m 2 < 256 ∧ val W m 3 = val 256 (clowB s) 17) (by kernel_rfl) (by kernel_rfl) rfl rfl rfl (by decide) (by decide) (by intros; simp) (by decide +kernel) (fun _ => by kernel_rfl) (fun w' _ => (split_any (clowB s) (lowB_in s hs) w').mono fun e w'' ⟨m, he, hm, l⟩ => ⟨_, he, ⟨m, rfl, hm⟩, l⟩) ?_
  rintro _ ⟨m3, rfl, t3⟩
  simp only [aP, lI, l0, lS]
  have hsum : val W m2 3 + val W m3 3 < W ^ 3 := by
    have q1 := t2.2
    have q3 := t3.2.2
    rw [lowB_val] at q3
    have q2 := val_in 256 (by decide) s 16 hs
    rw [show (256 : Int) ^ 16 = 340282366920938463463374607431768211456 from by decide] at q2
    rw [W3, q1, q3]
    simp only [Q]
    omega
  refine Chain.call 5 17 (fun v => ∃ m, v = (.agg (row .u64 3 (m)).toArray) ∧ In W 3 m ∧ val W m 3 = val W m2 3 + val W m3 3) (by kernel_rfl) (by kernel_rfl) rfl rfl rfl (by decide) (by decide) (by intros; simp) (by decide +kernel) (fun _ => by kernel_rfl) (fun w' _ => (plus_any m2 m3 t2.1 t3.1 hsum w').mono fun e w'' ⟨m, he, hm, l⟩ => ⟨_, he, ⟨m, rfl, hm⟩, l⟩) ?_
  rintro _ ⟨m4, rfl, t4⟩
  simp only [aP, lI, l0, lS]
  refine Chain.last (by kernel_rfl) ?_
  clear K
  intro B w4 K hF
  simp only [aP, lI, l0, lS]
  refine storesH (i := 7) none rfl .u64 3 m4 B 98 _ _ (by kernel_rfl) rfl rfl rfl rfl rfl (room_of hF.th) (cnum_info' _) (K.past B hF.lo _) ?_
  refine wpAnyH_done (by kernel_rfl) ?_ _
  have hBO := hF.lo
  replace K := K.land hF .u64 m4
  clear hF
  have hfit : In 256 17 (joinB m4) ∧ val 256 (joinB m4) 16 = (val 256 a 17 % Q + val 256 s 16) % 340282366920938463463374607431768211456 := by
    refine ⟨joinB_in m4, ?_⟩
    rw [low_val _ (joinB_in m4), joinB_val m4 t4.1, t4.2, t3.2.2, lowB_val, t2.2, t1.2]
    omega
  have HE := show Hid _ from hfit
  clear hfit t1 t2 t3 t4 hsum
  generalize w4.setCells B 0 (row .u64 3 m4) = w5 at K ⊢
  have s5 := K.size
  generalize w4.heap.size = N4 at K s5
  clear w4
  go_upto_region 4 with fail
  replace K := K.make 16 zu8_16 42 w5.heap.size rfl (tag_zero _ _ _ rfl).there
  go_upto_region 5 with fail
  generalize w5.alloc (.cells zu8_16 42) = w6 at K ⊢
  generalize w5.heap.size = U at K s5 ⊢
  clear w5
  refine wp_region_list ?_
  refine rowKL .u64 3 m4 B 0 98 _ _ rfl rfl rfl Tryd.underlying98 rfl (cnum_info _) (K.get _ _ _ _ mS).range ?_
  simp only [aP, lI, l0, lS]
  refine callL rfl (fun _ => by kernel_rfl) (join_any m4 _) ?_
  rintro e w7 ⟨rfl, l⟩
  replace K := K.call l
  clear l
  refine ⟨_, rfl, ?_⟩
  simp only [aP, lI, l0, lS]
  refine allocL zu8_17 80 rfl (fun _ => by kernel_rfl) ?_
  simp only [aP, lI, l0, lS]
  refine storesL .u8 17 (joinB m4) w7.heap.size 80 _ _ rfl rfl rfl rfl (room_of (big_zero _ _ _ rfl).there) (big_info' _) ?_
  simp only [Act.put]
  have s7 := K.size
  replace K := K.fresh .u8 17 (joinB m4) zu8_17 80 (big_zero _ _ _ rfl).there
  generalize ((w7.alloc (.cells zu8_17 80)).setCells w7.heap.size 0 (row .u8 17 (joinB m4))) = w8 at K ⊢
  generalize w7.heap.size = X at K s7 ⊢
  clear w7
  show Exit.then _ _ _ _ _
  go_upto_region 6 with fail
  refine wp_region_held_drew (S := fun w' => Kr w _ [(X, .u8, 17, joinB m4), (B, .u64, 3, m4), (O, .u8, 17, clowB s), (w.heap.size + 1, .u8, 16, s), (w.heap.size, .u8, 17, a)] [(U, 16), (w.heap.size + 1 + 1, 16)] w') (by kernel_rfl) K.drew ?_
  clear K
  intro K
  refine pureHg (i := 0) (some 20) rfl (.slice (some ⟨U, 0, none⟩) 16 16) rfl rfl (fun _ => by kernel_rfl) K ?_
  simp only [aP, lI, l0, lS]
  refine pureHg (i := 1) (some 21) rfl (.slice (some ⟨X, 0, none⟩) 17 17) rfl rfl (fun _ => by kernel_rfl) K ?_
  simp only [aP, lI, l0, lS]
  refine actH (i := 2) (some 22) rfl (.int .i64 ((16 : Nat) : Int)) (by kernel_rfl) rfl rfl (run_copy _ _ 27 27 5 rfl Tryd.underlying27 (by kernel_rfl) U 16 16 X 0 17 17 16 16 .u8 (joinB m4) (joinB m4) rfl rfl rfl (by omega) (K.room _ mS).1 (fun j hj => (K.get _ _ _ _ mS).cell (0 + j) (by omega)) (fun j _ => by rw [Nat.zero_add])) (K.fill U 16 mS _) ?_
  simp only [aP, lI, l0, lS]
  refine wpAnyH_done (by kernel_rfl) ?_ _
  have H := Has.all (K.room _ mS).1 .u8 (joinB m4)
  replace K := K.fill U 16 mS (row .u8 16 (joinB m4))
  generalize (w8.drew.setCells U 0 (row .u8 16 (joinB m4))) = w9 at K H ⊢
  have hz := (K.room _ (mT _ mS)).1
  have hB := (K.fill _ _ (mT _ mS) (row .u8 16 (joinB m4))).below
  clear K s7 s5 hBO s1
  generalize hj : joinB m4 = f at *
  go_wp2_with (first | (refine wpList_load_mid rfl 42 _ rfl (U) 0 rfl (row .u8 16 (f)) _ (Has.range (H)) Tryd.underlying42 rfl (tag_info _) ?_) | (refine wpList_store_mid rfl 42 _ _ rfl (w.heap.size + 1 + 1) 0 (row .u8 16 f).toArray rfl rfl (room_of hz) (tag_info' _) (all_oneCell_toArray (row_one _ _ _)) ?_))
  exact bodyPost_ret (v := (.agg (row .u8 16 (f)).toArray)) (results_row Tryd.results46 rfl (Has.all hz .u8 f).range Tryd.underlying42 rfl (tag_info f)) rfl ⟨f, rfl, ⟨fun j hj => HE.out.1 j (by omega), HE.out.2⟩, hB⟩
section
def Src (w : World) (sp : Option Addr) (len : Nat) (z : Nat → Int) : Prop := ∀ j, j < len → ∃ ad, sp = some ad ∧ w.cell? (ad.add j) = some (.int .u8 (z j))
theorem Src.below {w w' : World} {sp : Option Addr} {len : Nat} {z : Nat → Int} (h : Src w sp len z) {B : Nat} (l : Below B w w') (hB : w.heap.size ≤ B) : Src w' sp len z := fun j hj => by
  obtain ⟨ad, he, hc⟩ := h j hj
  have hb := World.block_lt_of_cell? w _ hc
  exact ⟨ad, he, by rw [l.cell (p := ad.add j) (Nat.lt_of_lt_of_le hb hB)]; exact hc⟩
section
variable {P : Program}
theorem run_copy_src {o : Oper} {a : Act} {w : World} (d s : Operand) (dT sT elem : TypeId) (ho : o.op = .call { callee := .builtin .copy, args := #[d, s], argTypes := #[dT, sT] }) (hu : P.underlying dT = some (.slice elem)) (hsz : (P.info? elem).map (·.size) = some 1)
    (b dLen dCap len cap n : Nat) (sp : Option Addr) (z : Nat → Int) (hd : a.eval d = .slice (some ⟨b, 0, none⟩) dLen dCap) (hs : a.eval s = .slice sp len cap) (hl : len ≤ dLen) (hn : len ≤ n) (hb : w.there b 0 n) (hc : Src w sp len z) :
    (execOp a.eval o).run P w = .ok (.value (.int .i64 (len : Int))) (w.setCells b 0 (row .u8 len z)) := by
  by_cases h0 : len = 0
  · subst h0
    have hrun := run_copy_none (P := P) w dT sT o.type elem (some ⟨b, 0, none⟩) sp dLen dCap 0 cap hu hsz (Nat.zero_min _)
    simp [execOp, ho, resolve, invoke, builtin, hd, hs, hrun, Result.andThen, goInt, row, World.setCells]
  · obtain ⟨ad, rfl, _⟩ := hc 0 (by omega)
    have hrun := run_copy_cells (P := P) w dT sT o.type elem b 0 dLen dCap ad len cap (row .u8 len z) hu hsz (by rw [row_length]; exact (Nat.min_eq_left hl).symm) (fun j v hv => by
      obtain ⟨hj, rfl⟩ := row_get_some hv
      obtain ⟨ad', he, hc'⟩ := hc j hj
      injection he with he
      subst he
      exact hc') (fun j hj => by rw [row_length] at hj; exact (hb j (by omega)).1) (fun j hj => by rw [row_length] at hj; exact (hb j (by omega)).2) (row_one .u8 len z)
    rw [row_length] at hrun
    simp [execOp, ho, resolve, invoke, builtin, hd, hs, hrun, Result.andThen, goInt]
end
end
def blk (len : Nat) (z : Nat → Int) : Nat → Int := fun j => if len ≤ 16 then (if j < len then z j else if j = len then 1 else 0) else 0
def blkE (len : Nat) : Int := if len ≤ 16 then 0 else 2
theorem blk_in (len : Nat) (z : Nat → Int) (hz : In 256 len z) : In 256 17 (blk len z) := fun j _ => by
  unfold blk
  split
  · split
    · exact hz j (by assumption)
    · split <;> omega
  · omega
theorem cblock_long (sp : Option Addr) (len cap : Nat) (z : Nat → Int) (hlen : 16 < len) (w : World) :
    Calls Tryd.prog 58 #[.slice sp len cap] w fun e w' => e = .returned (.tuple #[(.agg (row .u8 17 (blk len z)).toArray), .int .i64 (blkE len)]) ∧ Below w.heap.size w w' := by
  have eb : (row .u8 17 (blk len z)) = row .u8 17 (fun _ => 0) := row_congr _ _ fun j _ => by unfold blk; rw [if_neg (by omega)]
  have ee : blkE len = 2 := by unfold blkE; rw [if_neg (by omega)]
  rw [eb, ee]
  have z0 : Has ((w.alloc (.cells zu8_17 80)).alloc (.cells zu8_17 80)) w.heap.size .u8 17 (fun _ => 0) := (big_zero _ _ _ rfl).alloc _ (by simp)
  have g0 : Fr w 2 ((w.alloc (.cells zu8_17 80)).alloc (.cells zu8_17 80)) := ((Fr.refl w).alloc _).alloc _
  have hB := (g0.setAll w.heap.size (Nat.le_refl _) (row .u8 17 (fun _ => 0))).below
  have hl : (17 : Int) ≤ (len : Int) := by omega
  clear eb ee g0 hlen
  go_enter Tryd.func58, Tryd.ntmps58
  go_wp2_with (refine wpList_store_mid rfl 80 _ _ rfl (w.heap.size) 0 (row .u8 17 (fun _ => 0)).toArray rfl rfl (big_there (z0)) (big_info' _) (all_oneCell_toArray (row_one _ _ _)) ?_)
  exact bodyPost_ret (v := .tuple #[(.agg (row .u8 17 (fun _ => 0)).toArray), .int .i64 2]) (results_row_tmp Tryd.results58 rfl rfl (Has.all z0.there .u8 _).range Tryd.underlying80 rfl (big_info _)) rfl ⟨rfl, hB⟩
theorem cblock_short (sp : Option Addr) (len cap : Nat) (z : Nat → Int) (hlen : len ≤ 16) (w : World) (hs : Src w sp len z) :
    Calls Tryd.prog 58 #[.slice sp len cap] w fun e w' => e = .returned (.tuple #[(.agg (row .u8 17 (blk len z)).toArray), .int .i64 (blkE len)]) ∧ Below w.heap.size w w' := by
  have ee : blkE len = 0 := by unfold blkE; rw [if_pos hlen]
  rw [ee]
  have K := Kr.init w
  replace K := K.make 17 zu8_17 80 w.heap.size rfl (big_zero _ _ _ rfl).there
  have H : Has ((w.alloc (.cells zu8_17 80)).alloc (.cells zu8_17 80)) (w.heap.size + 1) .u8 17 (fun _ => 0) := big_zero _ _ _ (by simp)
  replace K := K.make 17 zu8_17 80 (w.heap.size + 1) (by simp) H.there
  have hs' := hs.below (w' := ((w.alloc (.cells zu8_17 80)).alloc (.cells zu8_17 80))) K.below (Nat.le_refl _)
  have hl : ¬ (17 : Int) ≤ (len : Int) := by omega
  have hl2 : (len : Int) < 17 := by omega
  have hl3 : (0 : Int) ≤ (len : Int) := by omega
  clear ee hs
  go_enter Tryd.func58, Tryd.ntmps58
  go_upto_region 4 with fail
  generalize ((w.alloc (.cells zu8_17 80)).alloc (.cells zu8_17 80)) = w1 at K H hs' ⊢
  refine wp_region_list ?_
  refine pureL (.slice (some ⟨w.heap.size + 1, 0, none⟩) 17 17) rfl (fun _ => by kernel_rfl) ?_
  simp only [aP, lI, l0, lS]
  refine pureL (.slice sp len cap) rfl (fun _ => by kernel_rfl) ?_
  simp only [aP, lI, l0, lS]
  refine actL (.int .i64 (len : Int)) rfl (run_copy_src _ _ 27 27 5 rfl Tryd.underlying27 (by kernel_rfl) (w.heap.size + 1) 17 17 len cap 17 sp z rfl rfl (by omega) (by omega) H.there hs') ?_
  simp only [aP, lI, l0, lS]
  replace K := K.fill (w.heap.size + 1) 17 mS (row .u8 len z)
  replace H := H.part 0 len (by omega) z
  clear hs'
  generalize w1.setCells (w.heap.size + 1) 0 (row .u8 len z) = w2 at K H ⊢
  have c1 := H.cell len (by omega)
  have f1 := H.free len (by omega)
  replace H := H.set len (by omega) 1
  have H' := H.congr (g := blk len z) (fun j hj => by
    unfold blk
    rw [if_pos hlen]
    by_cases e : j = len
    · subst e; rw [upd_same, if_neg (by omega), if_pos rfl]
    · rw [upd_other _ _ _ _ e]
      unfold over
      by_cases e2 : j < len
      · rw [if_pos (by omega), if_pos e2, Nat.sub_zero]
      · rw [if_neg (by omega), if_neg e2, if_neg e])
  have K' : Kr w _ [] [(w.heap.size + 1, 17), (w.heap.size, 17)] (w2.setCell ⟨w.heap.size + 1, len, none⟩ (.int .u8 1)) := K.poke (w.heap.size + 1) 17 mS len [.int .u8 1]
  clear H K
  generalize over (fun _ => 0) 0 len z len = y at *
  go_upto_region 5 with fail
  generalize w2.setCell ⟨w.heap.size + 1, len, none⟩ (.int .u8 1) = w3 at K' H' ⊢
  have hz := (K'.room _ (mT _ mS)).1
  have hB := (K'.fill _ _ (mT _ mS) (row .u8 17 (blk len z))).below
  clear K' c1 f1 hl hl2 hl3 hlen
  generalize hj : blk len z = f at *
  go_wp2_with (first | (refine wpList_load_mid rfl 80 _ rfl (w.heap.size + 1) 0 rfl (row .u8 17 (f)) _ (Has.range (H')) Tryd.underlying80 rfl (big_info _) ?_) | (refine wpList_store_mid rfl 80 _ _ rfl w.heap.size 0 (row .u8 17 f).toArray rfl rfl (room_of hz) (big_info' _) (all_oneCell_toArray (row_one _ _ _)) ?_))
  exact bodyPost_ret (v := .tuple #[(.agg (row .u8 17 (f)).toArray), .int .i64 0]) (results_row_tmp Tryd.results58 rfl rfl (Has.all hz .u8 f).range Tryd.underlying80 rfl (big_info f)) rfl ⟨rfl, hB⟩
theorem cblock_any (sp : Option Addr) (len cap : Nat) (z : Nat → Int) (w : World) (hs : Src w sp len z) :
    Calls Tryd.prog 58 #[.slice sp len cap] w fun e w' => e = .returned (.tuple #[(.agg (row .u8 17 (blk len z)).toArray), .int .i64 (blkE len)]) ∧ Below w.heap.size w w' := by
  by_cases h : len ≤ 16
  · exact cblock_short sp len cap z h w hs
  · exact cblock_long sp len cap z (by omega) w
def pcN (len i : Nat) : Nat := min (len - 16 * i) 16
def piece (len : Nat) (z : Nat → Int) (i : Nat) : Nat → Int := blk (pcN len i) (fun j => z (16 * i + j))
def npc (len : Nat) : Nat := (len + 15) / 16
theorem piece_in (len : Nat) (z : Nat → Int) (i : Nat) (hz : In 256 len z) : In 256 17 (piece len z i) := blk_in _ _ fun j hj => hz _ (by unfold pcN at hj; omega)
def acc (r : Int) (len : Nat) (z : Nat → Int) : Nat → Int
  | 0 => 0
  | i + 1 => ((acc r len z i + val 256 (piece len z i) 17) * r) % Q
def pR (k : Nat → Int) : Int := val 256 (trimT k) 16
def pS (k : Nat → Int) : Int := val 256 (fun j => k (16 + j)) 16
def ptag (k : Nat → Int) (len : Nat) (z : Nat → Int) : Int := (acc (pR k) len z (npc len) % Q + pS k) % 340282366920938463463374607431768211456
def byB (f : Nat → Int) : Nat → Int := fun j => if j < 16 then f j else 0
theorem byB_in (f : Nat → Int) (h : In 256 16 f) : In 256 17 (byB f) := fun j _ => by
  unfold byB
  split
  · exact h j (by assumption)
  · omega
theorem byB_val (f : Nat → Int) : val 256 (byB f) 17 = val 256 f 16 := by
  have e1 : val 256 (byB f) 17 = val 256 (byB f) 16 + 256 ^ 16 * byB f 16 := rfl
  have e2 : byB f 16 = 0 := by unfold byB; rw [if_neg (by omega)]
  rw [e1, e2, Int.mul_zero, Int.add_zero]
  exact val_congr 256 16 fun j hj => by unfold byB; rw [if_pos hj]
theorem acc_step {r : Int} {len : Nat} {z : Nat → Int} {i : Nat} {x y p : Int} (hx : x = (acc r len z i + val 256 (piece len z i) 17) % Q) (hp : p = r) (hy : y = (x * p) % Q) : y = acc r len z (i + 1) := by
  rw [hy, hx, hp]
  show _ = ((acc r len z i + val 256 (piece len z i) 17) * r) % Q
  rw [Int.mul_emod, Int.emod_emod_of_dvd _ (Int.dvd_refl Q), ← Int.mul_emod]
end Go.Proofs.YtgfpflcoknpbdaaDoor
