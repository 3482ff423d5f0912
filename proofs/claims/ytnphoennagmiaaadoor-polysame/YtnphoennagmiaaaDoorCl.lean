/- What least makes of a folded clamp number. -/
import Derived.Test.YtnphoennagmiaaaDoorCn
namespace Go.Proofs.YtnphoennagmiaaaDoor
open Go.RowKit

/-- The two tables lie where they lie. -/
def keptB : Nat → Int := fun j => if j = 3 ∨ j = 7 ∨ j = 11 ∨ j = 15 then 15 else if j = 4 ∨ j = 8 ∨ j = 12 then 252 else 255
structure Glob (w : World) : Prop where
  modulus : ∀ j, j < 3 → w.cell? ⟨1, j, none⟩ = some (.int .u64 (qW j))
  kept : ∀ j, j < 16 → w.cell? ⟨0, j, none⟩ = some (.int .u8 (keptB j))
  size : 2 ≤ w.heap.size
theorem Glob.below {w w' : World} (h : Glob w) {B : Nat} (l : Below B w w') (hB : 2 ≤ B) : Glob w' :=
  ⟨fun j hj => by rw [l.cell (p := ⟨1, j, none⟩) (Nat.lt_of_lt_of_le (show 1 < 2 by decide) hB)]; exact h.modulus j hj, fun j hj => by rw [l.cell (p := ⟨0, j, none⟩) (Nat.lt_of_lt_of_le (show 0 < 2 by decide) hB)]; exact h.kept j hj, by have := h.size; have := l.size; omega⟩
theorem Glob.fr {w w' : World} {k : Nat} (h : Glob w) (g : Fr w k w') : Glob w' := h.below g.below h.size

structure LInv (n : Nat → Int) (w : World) (k : Nat) (l : Nat → Int) (cv : Int) (w' : World) : Prop where
  c0 : 0 ≤ cv
  c1 : cv ≤ 1
  inn : In W 3 l
  eq : val W l k + val W qW k = val W n k + W ^ k * cv
  hn : Has w' w.heap.size .u64 3 n
  hr : Has w' (w.heap.size + 1) .u64 3 (fun _ => 0)
  hl : Has w' (w.heap.size + 1 + 1) .u64 3 l
  fr : Fr w 3 w'

theorem LInv.step {n : Nat → Int} {w : World} {k : Nat} {l : Nat → Int} {cv : Int} {w' : World} (h : LInv n w k l cv w') (hn : In W 3 n) (hk : k < 3) :
    LInv n w (k + 1) (upd l k (sLo (n k) (qW k) cv)) (sHi (n k) (qW k) cv) ((w'.setCell ⟨w.heap.size + 1 + 1, k, none⟩ (.int .u64 (sLo (n k) (qW k) cv))).drew) := by
  have i1 := hn k hk
  have i2 := qW_in k hk
  have q0 := h.c0; have q1 := h.c1
  simp only [W] at i1 i2
  have l0 : 0 ≤ sLo (n k) (qW k) cv := by unfold sLo; omega
  have l1 : sLo (n k) (qW k) cv < W := by simp only [W]; unfold sLo; omega
  have es : sLo (n k) (qW k) cv + (qW k + cv) = n k + W * sHi (n k) (qW k) cv := by simp only [W]; unfold sLo sHi; split <;> omega
  refine ⟨by unfold sHi; split <;> omega, by unfold sHi; split <;> omega, h.inn.upd k _ l0 l1, ?_, (h.hn.set_other _ _ (by simp; omega)).drew, (h.hr.set_other _ _ (by simp)).drew, (h.hl.set k hk _).drew, (h.fr.set _ _ (by simp; omega)).drew⟩
  simp only [val]
  rw [val_upd _ _ _ _ _ (Nat.le_refl k), upd_same, Int.pow_succ, Int.mul_assoc]
  have e1 : W ^ k * sLo (n k) (qW k) cv + (W ^ k * qW k + W ^ k * cv) = W ^ k * n k + W ^ k * (W * sHi (n k) (qW k) cv) := by
    rw [← Int.mul_add, ← Int.mul_add, es, Int.mul_add]
  have e2 := h.eq
  omega

/-- Behind k rounds of the second loop. -/
structure KInv (n l : Nat → Int) (cv : Int) (w : World) (k : Nat) (m : Nat → Int) (w' : World) : Prop where
  done : ∀ j, j < k → m j = if cv = 1 then n j else l j
  rest : ∀ j, k ≤ j → m j = n j
  hn : Has w' w.heap.size .u64 3 m
  hr : Has w' (w.heap.size + 1) .u64 3 (fun _ => 0)
  hl : Has w' (w.heap.size + 1 + 1) .u64 3 l
  fr : Fr w 3 w'

theorem KInv.step {n l : Nat → Int} {cv : Int} {w : World} {k : Nat} {m : Nat → Int} {w' : World} (h : KInv n l cv w k m w') (hk : k < 3) (r : Int) (hr : (if cv = 1 then m k else l k) = r) :
    KInv n l cv w (k + 1) (upd m k r) ((w'.setCell ⟨w.heap.size, k, none⟩ (.int .u64 r)).drew) := by
  rw [h.rest k (Nat.le_refl k)] at hr
  refine ⟨fun j hj => ?_, fun j hj => ?_, (h.hn.set k hk _).drew, (h.hr.set_other _ _ (by simp)).drew, (h.hl.set_other _ _ (by simp; omega)).drew, (h.fr.set _ _ (by simp)).drew⟩
  · by_cases e : j = k
    · subst e; rw [upd_same]; exact hr.symm
    · rw [upd_other _ _ _ _ e]; exact h.done j (by omega)
  · rw [upd_other _ _ _ _ (by omega)]; exact h.rest j (by omega)
theorem KInv.inn {n l : Nat → Int} {cv : Int} {w : World} {k : Nat} {m : Nat → Int} {w' : World} (h : KInv n l cv w k m w') (hn : In W 3 n) (hl : In W 3 l) : In W 3 m := fun j hj => by
  by_cases e : j < k
  · rw [h.done j e]; split
    · exact hn j hj
    · exact hl j hj
  · rw [h.rest j (by omega)]; exact hn j hj

set_option maxHeartbeats 2000000 in
theorem cleast_any (n : Nat → Int) (hn : In W 3 n) (hf : val W n 3 ≤ FB) (w : World) (hg : Glob w) :
    Calls Tryd.prog 32 #[(.agg (row .u64 3 (n)).toArray)] w fun e w' => ∃ m : Nat → Int, e = .returned (.agg (row .u64 3 (m)).toArray) ∧ (In W 3 m ∧ val W m 3 = val W n 3 % Q) ∧ Below w.heap.size w w' := by
  go_enter Tryd.func32, Tryd.ntmps32
  go_wp2
  go_loopw [4, 7] (fun c i w' => ∃ (k : Nat) (l : Nat → Int) (cv : Int), k ≤ 3 ∧ i = .int .i64 k ∧ c = .int .u64 cv ∧ LInv n w k l cv w') (fun _ i _ => 3 - (intOf i).toNat)
  case atStart =>
    exact ⟨0, fun _ => 0, 0, by omega, rfl, rfl, ⟨by omega, by omega, fun _ _ => ⟨Int.le_refl 0, by decide⟩, by simp [val], ((Has.new w _ _ _ _ _ rfl).alloc _ (by simp)).alloc _ (by simp; omega), (cnum_zero _ _ _ (by simp)).alloc _ (by simp), cnum_zero _ _ _ (by simp), (((Fr.refl w).alloc _).alloc _).alloc _⟩⟩
  case round =>
    obtain ⟨k, l, cv, hk, rfl, rfl, hI⟩ := hrel
    by_cases hlt : k < 3
    · have hS := hI.step hn hlt
      have c1 := hI.hn.cell k hlt
      have c2 := (hg.fr hI.fr).modulus k hlt
      have c3 := hI.hl.cell k hlt
      have f1 := hI.hl.free k hlt
      have b1 := (hn k hlt).1
      have b2 := qW_in k hlt
      have hadd := sub64 (n k) (qW k) cv b1 b2.1 b2.2 hI.c0 hI.c1
      have g1 : (0 : Int) ≤ (k : Int) := by omega
      have g2 : (k : Int) < 3 := by omega
      clear hI b2
      generalize sLo (n k) (qW k) cv = lo at *
      generalize sHi (n k) (qW k) cv = hi at *
      generalize n k = x at *
      generalize qW k = y at *
      generalize l k = z at *
      go_wp2
      go_region
      go_wp2
      go_roundw
      case rel => exact ⟨k + 1, _, _, by omega, by go_num, rfl, hS⟩
      case measure => simp [intOf]; omega
    · obtain rfl : k = 3 := by omega
      have cc : cv = 0 ∨ cv = 1 := by have := hI.c0; have := hI.c1; omega
      go_wp2
      go_loopw [24] (fun i w' => ∃ (k : Nat) (m : Nat → Int), k ≤ 3 ∧ i = .int .i64 k ∧ KInv n l cv w k m w') (fun i _ => 3 - (intOf i).toNat)
      case atStart => exact ⟨0, n, by omega, rfl, ⟨fun j hj => by omega, fun _ _ => rfl, hI.hn, hI.hr, hI.hl, hI.fr⟩⟩
      case round =>
        obtain ⟨k, m, hk2, rfl, hK⟩ := hrel
        by_cases hlt2 : k < 3
        · have hm := hK.inn hn hI.inn k hlt2
          have hl := hI.inn k hlt2
          obtain ⟨r, hr⟩ : ∃ r, (if cv = 1 then m k else l k) = r := ⟨_, rfl⟩
          have HR := show Hid _ from hK.step hlt2 r hr
          have HP := show Hid _ from fun W' => pickw_any cv (l k) (m k) hl.1 hl.2 hm.1 hm.2 cc r hr W'
          have c1 := hK.hn.cell k hlt2
          have c3 := hK.hl.cell k hlt2
          have f1 := hK.hn.free k hlt2
          have g1 : (0 : Int) ≤ (k : Int) := by omega
          have g2 : (k : Int) < 3 := by omega
          clear hI hlt hk cc hm hl hK hr
          generalize m k = x at *
          generalize l k = z at *
          go_wp2
          go_region_with (go_at_call 39; refine (HP.out _).mono ?_; rintro e w' ⟨rfl, rfl⟩)
          all_goals
            go_wp2
            go_roundw
            case rel => first | exact ⟨k + 1, _, by omega, by go_num, HR.out⟩ | ((repeat apply Exists.intro); refine ⟨⟨k + 1, _, by omega, ?_, HR.out⟩, rfl⟩ <;> first | rfl | go_num)
            case measure => simp [intOf]; omega
        · obtain rfl : k = 3 := by omega
          have HM := show Hid _ from least_math hn hI.inn cc hI.eq hK.done hf
          have hn' := hK.hn
          have hr' := hK.hr
          have hB := (hK.fr.setAll (w.heap.size + 1) (by omega) (row .u64 3 m)).below
          clear hK hI hf hn hlt2 hlt hk2 hk cc
          go_wp2_with (first | (refine wpList_load_mid rfl 49 _ rfl (w.heap.size) 0 rfl (row .u64 3 (m)) _ (Has.range (hn')) Tryd.underlying49 rfl (cnum_info _) ?_) | (refine wpList_store_mid rfl 49 _ _ rfl (w.heap.size + 1) 0 (row .u64 3 (m)).toArray rfl rfl (cnum_there (hr')) (cnum_info' _) (all_oneCell_toArray (row_one _ _ _)) ?_))
          exact bodyPost_ret (v := (.agg (row .u64 3 (m)).toArray)) (results_row Tryd.results32 rfl (Has.all hr'.there .u64 m).range Tryd.underlying49 rfl (cnum_info m)) rfl ⟨m, rfl, HM.out, hB⟩
end Go.Proofs.YtnphoennagmiaaaDoor
