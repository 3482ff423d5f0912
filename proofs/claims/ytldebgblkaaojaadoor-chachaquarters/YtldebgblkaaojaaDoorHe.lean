/- What a block is made of: begin. -/
import Derived.Test.YtldebgblkaaojaaDoorHc
namespace Go.Proofs.YtldebgblkaaojaaDoor
open Go.RowKit

theorem hcut_key (b k : Nat) (hk : k < 8) (w : World) : (Instr.sliceAt 28 (.pointer (some ⟨b, 0, none⟩)) (some (.int .i64 (4 * (k : Int)))) none none).run Tryd.prog w = .ok (.slice (some ⟨b, 4 * k, none⟩) (32 - 4 * k) (32 - 4 * k)) w := by
  have hl : Tryd.prog.arrayLen 28 = 32 := by kernel_rfl
  have hs : ∀ w, (sizeOf (Tryd.prog.elem 28)).run Tryd.prog w = .ok 1 w := fun w => by kernel_rfl
  rw [run_sliceAt_array_l w 28 ⟨b, 0, none⟩ (by kernel_rfl) .i64 _ (by omega) (by rw [hl]; omega), hs, hl]
  simp only [Result.andThen, slicedAt]
  have e1 : (4 * (k : Int)).toNat = 4 * k := by omega
  rw [e1, if_neg (by omega), Addr.add_mid, Nat.zero_add, Nat.mul_one]
theorem hcut_non (b k : Nat) (hk : k < 3) (w : World) : (Instr.sliceAt 30 (.pointer (some ⟨b, 0, none⟩)) (some (.int .i64 (4 * (k : Int)))) none none).run Tryd.prog w = .ok (.slice (some ⟨b, 4 * k, none⟩) (12 - 4 * k) (12 - 4 * k)) w := by
  have hl : Tryd.prog.arrayLen 30 = 12 := by kernel_rfl
  have hs : ∀ w, (sizeOf (Tryd.prog.elem 30)).run Tryd.prog w = .ok 1 w := fun w => by kernel_rfl
  rw [run_sliceAt_array_l w 30 ⟨b, 0, none⟩ (by kernel_rfl) .i64 _ (by omega) (by rw [hl]; omega), hs, hl]
  simp only [Result.andThen, slicedAt]
  have e1 : (4 * (k : Int)).toNat = 4 * k := by omega
  rw [e1, if_neg (by omega), Addr.add_mid, Nat.zero_add, Nat.mul_one]

/-- The first m words are made. -/
structure HBI (k : Nat → Int) (c : Int) (n : Nat → Int) (w : World) (m : Nat) (f : Nat → Int) (w' : World) : Prop where
  done : ∀ j, j < m → f j = hst k c n j
  hk : Has w' w.heap.size .u8 32 k
  hn : Has w' (w.heap.size + 1) .u8 12 n
  hr : Has w' (w.heap.size + 1 + 1) .u32 16 (fun _ => 0)
  hs : Has w' (w.heap.size + 1 + 1 + 1) .u32 16 f
  fr : Fr w 4 w'
theorem HBI.drewN {k : Nat → Int} {c : Int} {n : Nat → Int} {w : World} {m : Nat} {f : Nat → Int} {w' : World} (h : HBI k c n w m f w') (q : Nat) : HBI k c n w m f (w'.drewN q) :=
  ⟨h.done, ⟨h.hk.cell, h.hk.free⟩, ⟨h.hn.cell, h.hn.free⟩, ⟨h.hr.cell, h.hr.free⟩, ⟨h.hs.cell, h.hs.free⟩, ⟨below_drewN h.fr.below, h.fr.size⟩⟩
theorem HBI.step {k : Nat → Int} {c : Int} {n : Nat → Int} {w : World} {m : Nat} {f : Nat → Int} {w' : World} (h : HBI k c n w m f w') (hm : m < 16) (v : Int) (hv : hst k c n m = v) : HBI k c n w (m + 1) (upd f m v) (w'.setCell ⟨w.heap.size + 1 + 1 + 1, m, none⟩ (.int .u32 v)) := by
  refine ⟨fun j hj => ?_, h.hk.set_other _ _ (by simp; omega), h.hn.set_other _ _ (by simp; omega), h.hr.set_other _ _ (by simp), h.hs.set m hm v, h.fr.set _ _ (by simp; omega)⟩
  by_cases e : j = m
  · subst e; rw [upd_same, hv]
  · rw [upd_other _ _ _ _ e]; exact h.done j (by omega)
theorem hst_first (k : Nat → Int) (c : Int) (n : Nat → Int) (j : Nat) (hj : j < 4) : hst k c n j = hfst j := by
  match j, hj with
  | 0, _ | 1, _ | 2, _ | 3, _ => rfl
theorem hst_key (k : Nat → Int) (c : Int) (n : Nat → Int) (j : Nat) (hj : j < 8) : hst k c n (4 + j) = w32 k (4 * j) := by
  match j, hj with
  | 0, _ | 1, _ | 2, _ | 3, _ | 4, _ | 5, _ | 6, _ | 7, _ => rfl
theorem hst_non (k : Nat → Int) (c : Int) (n : Nat → Int) (j : Nat) (hj : j < 3) : hst k c n (13 + j) = w32 n (4 * j) := by
  match j, hj with
  | 0, _ | 1, _ | 2, _ => rfl

set_option maxRecDepth 10000 in
set_option maxHeartbeats 4000000 in
theorem hbegin_any (k : Nat → Int) (c : Int) (n : Nat → Int) (hk : In 256 32 k) (hn : In 256 12 n) (w : World) (hg : HGlob w) :
    Calls Tryd.prog 18 #[(.agg (row .u8 32 (k)).toArray), .int .u32 c, (.agg (row .u8 12 (n)).toArray)] w fun e w' => e = .returned (.agg (row .u32 16 (hst k c n)).toArray) ∧ Below w.heap.size w w' := by
  go_enter Tryd.func18, Tryd.ntmps18
  go_wp2
  go_loopw [11] (fun i w' => ∃ (m : Nat) (f : Nat → Int), m ≤ 4 ∧ i = .int .i64 m ∧ HBI k c n w m f w') (fun i _ => 4 - (intOf i).toNat)
  case atStart => exact ⟨0, fun _ => 0, by omega, rfl, ⟨fun j hj => by omega, (((Has.new w _ _ _ _ _ rfl).alloc _ (by simp)).alloc _ (by simp; omega)).alloc _ (by simp; omega), ((Has.new _ _ _ _ _ _ (by simp)).alloc _ (by simp)).alloc _ (by simp), (hs_zero _ _ _ (by simp)).alloc _ (by simp), hs_zero _ _ _ (by simp), ((((Fr.refl w).alloc _).alloc _).alloc _).alloc _⟩⟩
  case round =>
    obtain ⟨m, f, hm, rfl, hI⟩ := hrel
    have g1 : (0 : Int) ≤ (m : Int) := by omega
    by_cases hlt : m < 4
    · have HS := show Hid _ from hI.step (by omega) _ (hst_first k c n m hlt)
      have g2 : (m : Int) < 4 := by omega
      have g3 : (m : Int) < 16 := by omega
      have p1 := (hg.fr hI.fr).first m hlt
      have c1 := hI.hs.cell m (by omega)
      have f1 := hI.hs.free m (by omega)
      clear hI hm
      generalize f m = y at *
      generalize hfst m = z at *
      go_wp2
      go_roundw
      case rel => exact ⟨m + 1, _, by omega, by go_num, HS.out⟩
      case measure => simp [intOf]; omega
    · obtain rfl : m = 4 := by omega
      clear hlt hm g1
      go_wp2
      go_loopw [20] (fun i w' => ∃ (m : Nat) (f : Nat → Int), m ≤ 8 ∧ i = .int .i64 m ∧ HBI k c n w (4 + m) f w') (fun i _ => 8 - (intOf i).toNat)
      case atStart => exact ⟨0, f, by omega, rfl, hI⟩
      case round =>
        obtain ⟨m, f, hm, rfl, hI⟩ := hrel
        have g1 : (0 : Int) ≤ (m : Int) := by omega
        by_cases hlt : m < 8
        · have hcut := hcut_key w.heap.size m hlt
          have HC := show Hid _ from of32_any w.heap.size (4 * m) 32 (32 - 4 * m) (32 - 4 * m) k (by omega) (by omega) hk wr hI.hk
          have HS := show Hid _ from fun q => (hI.drewN q).step (by omega) _ (hst_key k c n m hlt)
          have g2 : (m : Int) < 8 := by omega
          have g3 : (0 : Int) ≤ 4 + (m : Int) := by omega
          have g4 : 4 + (m : Int) < 16 := by omega
          have g5 : (4 + (m : Int)).toNat = 4 + m := by omega
          have cn : ∀ q, (wr.drewN q).cell? ⟨w.heap.size + 1 + 1 + 1, 4 + m, none⟩ = some (.int .u32 (f (4 + m))) := fun q => hI.hs.cell (4 + m) (by omega)
          have fn : ∀ q, (wr.drewN q).frozen? ⟨w.heap.size + 1 + 1 + 1, 4 + m, none⟩ = false := fun q => hI.hs.free (4 + m) (by omega)
          clear hI hm
          generalize f (4 + m) = y at *
          generalize w32 k (4 * m) = z at *
          go_wp2_with fail
          refine Calls.mono HC.out ?_
          rintro e w' ⟨q, rfl, rfl⟩
          have cn' := cn q
          have fn' := fn q
          have HT := show Hid _ from HS.out q
          clear HC HS cn fn hcut
          generalize wr.drewN q = w2 at *
          go_wp2
          go_roundw
          case rel => first | exact ⟨m + 1, _, by omega, by go_num, HT.out⟩ | ((repeat apply Exists.intro); refine ⟨⟨m + 1, _, by omega, ?_, HT.out⟩, rfl⟩ <;> first | rfl | go_num)
          case measure => simp [intOf]; omega
        · obtain rfl : m = 8 := by omega
          have hI2 := hI.step (by omega) c rfl
          have c1 := hI.hs.cell 12 (by omega)
          have f1 := hI.hs.free 12 (by omega)
          clear hlt hm g1 hI
          generalize f 12 = y at *
          go_wp2
          go_loopw [33] (fun i w' => ∃ (m : Nat) (f : Nat → Int), m ≤ 3 ∧ i = .int .i64 m ∧ HBI k c n w (13 + m) f w') (fun i _ => 3 - (intOf i).toNat)
          case atStart => exact ⟨0, _, by omega, rfl, hI2⟩
          case round =>
            obtain ⟨m, f, hm, rfl, hI⟩ := hrel
            have g1 : (0 : Int) ≤ (m : Int) := by omega
            clear hI2 c1 f1
            by_cases hlt : m < 3
            · have hcut := hcut_non (w.heap.size + 1) m hlt
              have HC := show Hid _ from of32_any (w.heap.size + 1) (4 * m) 12 (12 - 4 * m) (12 - 4 * m) n (by omega) (by omega) hn wr hI.hn
              have HS := show Hid _ from fun q => (hI.drewN q).step (by omega) _ (hst_non k c n m hlt)
              have g2 : (m : Int) < 3 := by omega
              have g3 : (0 : Int) ≤ 13 + (m : Int) := by omega
              have g4 : 13 + (m : Int) < 16 := by omega
              have g5 : (13 + (m : Int)).toNat = 13 + m := by omega
              have cn : ∀ q, (wr.drewN q).cell? ⟨w.heap.size + 1 + 1 + 1, 13 + m, none⟩ = some (.int .u32 (f (13 + m))) := fun q => hI.hs.cell (13 + m) (by omega)
              have fn : ∀ q, (wr.drewN q).frozen? ⟨w.heap.size + 1 + 1 + 1, 13 + m, none⟩ = false := fun q => hI.hs.free (13 + m) (by omega)
              clear hI hm
              generalize f (13 + m) = y at *
              generalize w32 n (4 * m) = z at *
              go_wp2_with fail
              refine Calls.mono HC.out ?_
              rintro e w' ⟨q, rfl, rfl⟩
              have cn' := cn q
              have fn' := fn q
              have HT := show Hid _ from HS.out q
              clear HC HS cn fn hcut
              generalize wr.drewN q = w2 at *
              go_wp2
              go_roundw
              case rel => first | exact ⟨m + 1, _, by omega, by go_num, HT.out⟩ | ((repeat apply Exists.intro); refine ⟨⟨m + 1, _, by omega, ?_, HT.out⟩, rfl⟩ <;> first | rfl | go_num)
              case measure => simp [intOf]; omega
            · obtain rfl : m = 3 := by omega
              have hs := hI.hs.congr (g := hst k c n) (fun j hj => hI.done j hj)
              have hz := hI.hr
              have hB := (hI.fr.setAll (w.heap.size + 1 + 1) (by omega) (row .u32 16 (hst k c n))).below
              clear hI hlt hm g1
              generalize hf : hst k c n = g at *
              go_wp2_with (first | (refine wpList_load_mid rfl 47 _ rfl (w.heap.size + 1 + 1 + 1) 0 rfl (row .u32 16 (g)) _ (Has.range (hs)) Tryd.underlying47 rfl (hs_info _) ?_) | (refine wpList_store_mid rfl 47 _ _ rfl (w.heap.size + 1 + 1) 0 (row .u32 16 (g)).toArray rfl rfl (hs_there (hz)) (hs_info' _) (all_oneCell_toArray (row_one _ _ _)) ?_))
              exact bodyPost_ret (v := (.agg (row .u32 16 (g)).toArray)) (results_row Tryd.results18 rfl (Has.all hz.there .u32 _).range Tryd.underlying47 rfl (hs_info _)) rfl ⟨by rw [hf], hB⟩
end Go.Proofs.YtldebgblkaaojaaDoor
