/- What lessen and least come to: a number from 0 to below 2^255 - 19. -/
import Derived.Test.YthephehecapmhabDoorNums
import Derived.Test.YthephehecapmhabDoorWd
namespace Go.Proofs.YthephehecapmhabDoor
open Go.RowKit

/-- The words of 2^255 - 19, and of two less. -/
def pW : Nat → Int
  | 0 => 18446744073709551597
  | 1 => 18446744073709551615
  | 2 => 18446744073709551615
  | 3 => 9223372036854775807
  | _ + 4 => 0
def eW : Nat → Int
  | 0 => 18446744073709551595
  | 1 => 18446744073709551615
  | 2 => 18446744073709551615
  | 3 => 9223372036854775807
  | _ + 4 => 0
theorem pW_in : In W 4 pW
  | 0, _ => by decide
  | 1, _ => by decide
  | 2, _ => by decide
  | 3, _ => by decide
  | _ + 4, h => by omega
theorem val_pW : val W pW 4 = Q := by decide

/-- The two tables lie where they lie. -/
structure Glob (w : World) : Prop where
  prime : ∀ j, j < 4 → w.cell? ⟨2, j, none⟩ = some (.int .u64 (pW j))
  power : ∀ j, j < 4 → w.cell? ⟨1, j, none⟩ = some (.int .u64 (eW j))
  size : 3 ≤ w.heap.size
theorem Glob.below {w w' : World} (h : Glob w) {B : Nat} (l : Below B w w') (hB : 3 ≤ B) : Glob w' :=
  ⟨fun j hj => by rw [l.cell (p := ⟨2, j, none⟩) (Nat.lt_of_lt_of_le (show 2 < 3 by decide) hB)]; exact h.prime j hj, fun j hj => by rw [l.cell (p := ⟨1, j, none⟩) (Nat.lt_of_lt_of_le (show 1 < 3 by decide) hB)]; exact h.power j hj, by have := h.size; have := l.size; omega⟩
theorem Glob.fr {w w' : World} {k : Nat} (h : Glob w) (g : Fr w k w') : Glob w' := h.below g.below h.size

structure LInv (n : Nat → Int) (w : World) (k : Nat) (l : Nat → Int) (cv : Int) (w' : World) : Prop where
  c0 : 0 ≤ cv
  c1 : cv ≤ 1
  inn : In W 4 l
  eq : val W l k + val W pW k = val W n k + W ^ k * cv
  hn : Has w' w.heap.size .u64 4 n
  hr : Has w' (w.heap.size + 1) .u64 4 (fun _ => 0)
  hl : Has w' (w.heap.size + 1 + 1) .u64 4 l
  fr : Fr w 3 w'

theorem LInv.step {n : Nat → Int} {w : World} {k : Nat} {l : Nat → Int} {cv : Int} {w' : World} (h : LInv n w k l cv w') (hn : In W 4 n) (hk : k < 4) :
    LInv n w (k + 1) (upd l k (sLo (n k) (pW k) cv)) (sHi (n k) (pW k) cv) ((w'.setCell ⟨w.heap.size + 1 + 1, k, none⟩ (.int .u64 (sLo (n k) (pW k) cv))).drew) := by
  have i1 := hn k hk
  have i2 := pW_in k hk
  have q0 := h.c0; have q1 := h.c1
  simp only [W] at i1 i2
  have l0 : 0 ≤ sLo (n k) (pW k) cv := by unfold sLo; omega
  have l1 : sLo (n k) (pW k) cv < W := by simp only [W]; unfold sLo; omega
  have es : sLo (n k) (pW k) cv + (pW k + cv) = n k + W * sHi (n k) (pW k) cv := by simp only [W]; unfold sLo sHi; split <;> omega
  refine ⟨by unfold sHi; split <;> omega, by unfold sHi; split <;> omega, h.inn.upd k _ l0 l1, ?_, (h.hn.set_other _ _ (by simp; omega)).drew, (h.hr.set_other _ _ (by simp)).drew, (h.hl.set k hk _).drew, (h.fr.set _ _ (by simp; omega)).drew⟩
  simp only [val]
  rw [val_upd _ _ _ _ _ (Nat.le_refl k), upd_same, Int.pow_succ, Int.mul_assoc]
  have e1 : W ^ k * sLo (n k) (pW k) cv + (W ^ k * pW k + W ^ k * cv) = W ^ k * n k + W ^ k * (W * sHi (n k) (pW k) cv) := by
    rw [← Int.mul_add, ← Int.mul_add, es, Int.mul_add]
  have e2 := h.eq
  omega

theorem lessen_math {n l m : Nat → Int} {cv : Int} (hn : In W 4 n) (hl : In W 4 l) (hc : cv = 0 ∨ cv = 1) (he : val W l 4 + val W pW 4 = val W n 4 + W ^ 4 * cv) (hm : ∀ j, j < 4 → m j = if cv = 1 then n j else l j) :
    In W 4 m ∧ (val W n 4 < Q ∧ val W m 4 = val W n 4 ∨ Q ≤ val W n 4 ∧ val W m 4 = val W n 4 - Q) := by
  have i1 := val_in W (by decide) n 4 hn
  have i2 := val_in W (by decide) l 4 hl
  rw [val_pW, W4] at he
  rw [W4] at i1 i2
  rcases hc with rfl | rfl
  · have e := val_congr W (f := m) (g := l) 4 fun j hj => by rw [hm j hj]; rfl
    refine ⟨fun j hj => by rw [hm j hj]; exact hl j hj, Or.inr ?_⟩
    rw [e]; clear hm e; simp only [Q] at he ⊢; omega
  · have e := val_congr W (f := m) (g := n) 4 fun j hj => by rw [hm j hj]; rfl
    refine ⟨fun j hj => by rw [hm j hj]; exact hn j hj, Or.inl ?_⟩
    rw [e]; clear hm e; refine ⟨?_, rfl⟩; simp only [Q] at he ⊢; omega

/-- Behind k rounds of the second loop. -/
structure KInv (n l : Nat → Int) (cv : Int) (w : World) (k : Nat) (m : Nat → Int) (w' : World) : Prop where
  done : ∀ j, j < k → m j = if cv = 1 then n j else l j
  rest : ∀ j, k ≤ j → m j = n j
  hn : Has w' w.heap.size .u64 4 m
  hr : Has w' (w.heap.size + 1) .u64 4 (fun _ => 0)
  hl : Has w' (w.heap.size + 1 + 1) .u64 4 l
  fr : Fr w 3 w'

theorem KInv.step {n l : Nat → Int} {cv : Int} {w : World} {k : Nat} {m : Nat → Int} {w' : World} (h : KInv n l cv w k m w') (hk : k < 4) (r : Int) (hr : (if cv = 1 then m k else l k) = r) :
    KInv n l cv w (k + 1) (upd m k r) ((w'.setCell ⟨w.heap.size, k, none⟩ (.int .u64 r)).drew) := by
  rw [h.rest k (Nat.le_refl k)] at hr
  refine ⟨fun j hj => ?_, fun j hj => ?_, (h.hn.set k hk _).drew, (h.hr.set_other _ _ (by simp)).drew, (h.hl.set_other _ _ (by simp; omega)).drew, (h.fr.set _ _ (by simp)).drew⟩
  · by_cases e : j = k
    · subst e; rw [upd_same]; exact hr.symm
    · rw [upd_other _ _ _ _ e]; exact h.done j (by omega)
  · rw [upd_other _ _ _ _ (by omega)]; exact h.rest j (by omega)
theorem KInv.inn {n l : Nat → Int} {cv : Int} {w : World} {k : Nat} {m : Nat → Int} {w' : World} (h : KInv n l cv w k m w') (hn : In W 4 n) (hl : In W 4 l) : In W 4 m := fun j hj => by
  by_cases e : j < k
  · rw [h.done j e]; split
    · exact hn j hj
    · exact hl j hj
  · rw [h.rest j (by omega)]; exact hn j hj

set_option maxHeartbeats 2000000 in
theorem lessen_any (n : Nat → Int) (hn : In W 4 n) (w : World) (hg : Glob w) :
    Calls Tryd.prog 40 #[(.agg (row .u64 4 (n)).toArray)] w fun e w' => ∃ m : Nat → Int, e = .returned (.agg (row .u64 4 (m)).toArray) ∧ (In W 4 m ∧ (val W n 4 < Q ∧ val W m 4 = val W n 4 ∨ Q ≤ val W n 4 ∧ val W m 4 = val W n 4 - Q)) ∧ Below w.heap.size w w' := by
  go_enter Tryd.func40, Tryd.ntmps40
  go_wp2
  go_loopw [4, 7] (fun c i w' => ∃ (k : Nat) (l : Nat → Int) (cv : Int), k ≤ 4 ∧ i = .int .i64 k ∧ c = .int .u64 cv ∧ LInv n w k l cv w') (fun _ i _ => 4 - (intOf i).toNat)
  case atStart =>
    exact ⟨0, fun _ => 0, 0, by omega, rfl, rfl, ⟨by omega, by omega, fun _ _ => ⟨Int.le_refl 0, by decide⟩, by simp [val], ((Has.new w _ _ _ _ _ rfl).alloc _ (by simp)).alloc _ (by simp; omega), (has_zero _ _ _ (by simp)).alloc _ (by simp), has_zero _ _ _ (by simp), (((Fr.refl w).alloc _).alloc _).alloc _⟩⟩
  case round =>
    obtain ⟨k, l, cv, hk, rfl, rfl, hI⟩ := hrel
    by_cases hlt : k < 4
    · have hS := hI.step hn hlt
      have c1 := hI.hn.cell k hlt
      have c2 := (hg.fr hI.fr).prime k hlt
      have c3 := hI.hl.cell k hlt
      have f1 := hI.hl.free k hlt
      have b1 := (hn k hlt).1
      have b2 := pW_in k hlt
      have hadd := sub64 (n k) (pW k) cv b1 b2.1 b2.2 hI.c0 hI.c1
      have g1 : (0 : Int) ≤ (k : Int) := by omega
      have g2 : (k : Int) < 4 := by omega
      clear hI b2
      generalize sLo (n k) (pW k) cv = lo at *
      generalize sHi (n k) (pW k) cv = hi at *
      generalize n k = x at *
      generalize pW k = y at *
      generalize l k = z at *
      go_wp2
      go_region
      go_wp2
      go_roundw
      case rel => exact ⟨k + 1, _, _, by omega, by go_num, rfl, hS⟩
      case measure => simp [intOf]; omega
    · obtain rfl : k = 4 := by omega
      have cc : cv = 0 ∨ cv = 1 := by have := hI.c0; have := hI.c1; omega
      go_wp2
      go_loopw [24] (fun i w' => ∃ (k : Nat) (m : Nat → Int), k ≤ 4 ∧ i = .int .i64 k ∧ KInv n l cv w k m w') (fun i _ => 4 - (intOf i).toNat)
      case atStart => exact ⟨0, n, by omega, rfl, ⟨fun j hj => by omega, fun _ _ => rfl, hI.hn, hI.hr, hI.hl, hI.fr⟩⟩
      case round =>
        obtain ⟨k, m, hk2, rfl, hK⟩ := hrel
        by_cases hlt2 : k < 4
        · have hm := hK.inn hn hI.inn k hlt2
          have hl := hI.inn k hlt2
          obtain ⟨r, hr⟩ : ∃ r, (if cv = 1 then m k else l k) = r := ⟨_, rfl⟩
          have HR := show Hid _ from hK.step hlt2 r hr
          have HP := show Hid _ from fun W' => pickw_any cv (l k) (m k) hl.1 hl.2 hm.1 hm.2 cc r hr W'
          have c1 := hK.hn.cell k hlt2
          have c3 := hK.hl.cell k hlt2
          have f1 := hK.hn.free k hlt2
          have g1 : (0 : Int) ≤ (k : Int) := by omega
          have g2 : (k : Int) < 4 := by omega
          clear hI hlt hk cc hm hl hK hr
          generalize m k = x at *
          generalize l k = z at *
          go_wp2
          go_region_with (go_at_call 44; refine (HP.out _).mono ?_; rintro e w' ⟨rfl, rfl⟩)
          all_goals
            go_wp2
            go_roundw
            case rel => first | exact ⟨k + 1, _, by omega, by go_num, HR.out⟩ | ((repeat apply Exists.intro); refine ⟨⟨k + 1, _, by omega, ?_, HR.out⟩, rfl⟩ <;> first | rfl | go_num)
            case measure => simp [intOf]; omega
        · obtain rfl : k = 4 := by omega
          have hM := lessen_math hn hI.inn cc hI.eq hK.done
          go_wp2_with (first | (refine wpList_load_mid rfl 46 _ rfl (w.heap.size) 0 rfl (row .u64 4 (m)) _ (Has.range (hK.hn)) Tryd.underlying46 rfl (num_info _) ?_) | (refine wpList_store_mid rfl 46 _ _ rfl (w.heap.size + 1) 0 (row .u64 4 (m)).toArray rfl rfl (num_there (hK.hr)) (num_info' _) (all_oneCell_toArray (row_one _ _ _)) ?_))
          exact bodyPost_ret (v := (.agg (row .u64 4 (m)).toArray)) (results_row Tryd.results40 rfl (Has.all hK.hr.there .u64 m).range Tryd.underlying46 rfl (num_info m)) rfl ⟨m, rfl, hM, (hK.fr.setAll _ (by omega) _).below⟩

/-- Behind k rounds of least. -/
structure TInv (n : Nat → Int) (w : World) (k : Nat) (m : Nat → Int) (w' : World) : Prop where
  inn : In W 4 m
  eq : val W m 4 % Q = val W n 4 % Q
  small : k = 0 ∨ (k = 1 ∧ val W m 4 < W ^ 4 - Q) ∨ (k = 2 ∧ val W m 4 < Q)
  hn : Has w' w.heap.size .u64 4 m
  hr : Has w' (w.heap.size + 1) .u64 4 (fun _ => 0)
  fr : Fr w 2 w'

theorem TInv.step {n : Nat → Int} {w : World} {k : Nat} {m m' : Nat → Int} {w' w'' : World} (h : TInv n w k m w') (hk : k < 2) (l : Below w'.heap.size w' w'') (hm : In W 4 m' ∧ (val W m 4 < Q ∧ val W m' 4 = val W m 4 ∨ Q ≤ val W m 4 ∧ val W m' 4 = val W m 4 - Q)) :
    TInv n w (k + 1) m' (w''.setCells w.heap.size 0 (row .u64 4 m')) := by
  have i1 := val_in W (by decide) m 4 h.inn
  have s := h.small
  have e := h.eq
  rw [W4] at i1 s
  refine ⟨hm.1, ?_, ?_, Has.all (h.hn.call h.fr l (by omega)).there .u64 m', (h.hr.call h.fr l (by omega)).setAll_other _ (by omega) 0 _, (h.fr.call l).setAll _ (by omega) _⟩
  · rw [← e]; rcases hm.2 with ⟨_, h'⟩ | ⟨_, h'⟩ <;> rw [h'] <;> simp only [Q] at * <;> omega
  · rw [W4]; rcases hm.2 with ⟨_, h'⟩ | ⟨_, h'⟩ <;> rw [h'] <;> simp only [Q] at * <;> omega

set_option maxHeartbeats 1000000 in
theorem least_any (n : Nat → Int) (hn : In W 4 n) (w : World) (hg : Glob w) :
    Calls Tryd.prog 32 #[(.agg (row .u64 4 (n)).toArray)] w fun e w' => ∃ m : Nat → Int, e = .returned (.agg (row .u64 4 (m)).toArray) ∧ (In W 4 m ∧ val W m 4 = val W n 4 % Q) ∧ Below w.heap.size w w' := by
  go_enter Tryd.func32, Tryd.ntmps32
  go_wp2
  go_loopw [3] (fun i w' => ∃ (k : Nat) (m : Nat → Int), k ≤ 2 ∧ i = .int .i64 k ∧ TInv n w k m w') (fun i _ => 2 - (intOf i).toNat)
  case atStart => exact ⟨0, n, by omega, rfl, ⟨hn, rfl, Or.inl rfl, (Has.new w _ _ _ _ _ rfl).alloc _ (by simp), has_zero _ _ _ (by simp), ((Fr.refl w).alloc _).alloc _⟩⟩
  case round =>
    obtain ⟨k, m, hk, rfl, hI⟩ := hrel
    have hn' := hI.hn
    by_cases hlt : k < 2
    · go_wp2_with (refine wpList_load_mid rfl 46 _ rfl (w.heap.size) 0 rfl (row .u64 4 (m)) _ (Has.range (hn')) Tryd.underlying46 rfl (num_info _) ?_)
      refine (lessen_any m hI.inn _ (hg.fr hI.fr)).mono ?_
      rintro e w1 ⟨m1, rfl, s1, l1⟩
      have hS := hI.step hlt l1 s1
      have h1 := hI.hn.call hI.fr l1 (by omega)
      clear hn'
      go_wp2_with (refine wpList_store_mid rfl 46 _ _ rfl (w.heap.size) 0 (row .u64 4 (m1)).toArray rfl rfl (num_there (h1)) (num_info' _) (all_oneCell_toArray (row_one _ _ _)) ?_)
      go_roundw
      case rel => exact ⟨k + 1, _, by omega, by go_num, hS⟩
      case measure => simp [intOf]; omega
    · obtain rfl : k = 2 := by omega
      have hM : val W m 4 = val W n 4 % Q := by
        have s := hI.small
        have e := hI.eq
        have i1 := val_in W (by decide) m 4 hI.inn
        simp only [Q] at *
        omega
      have hz := hI.hr
      go_wp2_with (first | (refine wpList_load_mid rfl 46 _ rfl (w.heap.size) 0 rfl (row .u64 4 (m)) _ (Has.range (hn')) Tryd.underlying46 rfl (num_info _) ?_) | (refine wpList_store_mid rfl 46 _ _ rfl (w.heap.size + 1) 0 (row .u64 4 (m)).toArray rfl rfl (num_there (hz)) (num_info' _) (all_oneCell_toArray (row_one _ _ _)) ?_))
      exact bodyPost_ret (v := (.agg (row .u64 4 (m)).toArray)) (results_row Tryd.results32 rfl (Has.all hz.there .u64 m).range Tryd.underlying46 rfl (num_info m)) rfl ⟨m, rfl, ⟨hI.inn, hM⟩, (hI.fr.setAll _ (by omega) _).below⟩
end Go.Proofs.YthephehecapmhabDoor
