/- What fold comes to: eight words, modulo 2^255 - 19. -/
import Derived.Test.YthephehecapmhabDoorNums
import Derived.Test.YthephehecapmhabDoorWd
namespace Go.Proofs.YthephehecapmhabDoor
open Go.RowKit

theorem wid_info (f : Nat → Int) : (Tryd.prog.info? 55).map (·.size) = some (row .u64 8 f).length := by rw [row_length]; kernel_rfl

/-- Behind k rounds of fold. -/
structure FInv (d : Nat → Int) (w : World) (k : Nat) (n : Nat → Int) (cv : Int) (w' : World) : Prop where
  c0 : 0 ≤ cv
  c1 : cv ≤ 38
  inn : In W 4 n
  eq : val W n k + W ^ k * cv = val W d k + 38 * val W (fun j => d (j + 4)) k
  hd : Has w' w.heap.size .u64 8 d
  hr : Has w' (w.heap.size + 1) .u64 4 (fun _ => 0)
  hn : Has w' (w.heap.size + 1 + 1) .u64 4 n
  fr : Fr w 3 w'

theorem FInv.step {d : Nat → Int} {w : World} {k : Nat} {n : Nat → Int} {cv h l : Int} {w' : World} (hI : FInv d w k n cv w') (hd : In W 8 d) (hk : k < 4) (hs : Steps (d (k + 4)) 38 (d k) cv h l) :
    FInv d w (k + 1) (upd n k l) h ((w'.setCell ⟨w.heap.size + 1 + 1, k, none⟩ (.int .u64 l)).drew) := by
  obtain ⟨s0, s1, s2, s3, s4⟩ := hs
  have i1 := hd (k + 4) (by omega)
  have i2 := hd k (by omega)
  have q1 := hI.c1; have q0 := hI.c0
  refine ⟨s0, ?_, hI.inn.upd k l s2 s3, ?_, (hI.hd.set_other _ _ (by simp; omega)).drew, (hI.hr.set_other _ _ (by simp)).drew, (hI.hn.set k hk _).drew, (hI.fr.set _ _ (by simp; omega)).drew⟩
  · simp only [W] at *; omega
  · simp only [val]
    rw [val_upd _ _ _ _ _ (Nat.le_refl k), upd_same, Int.pow_succ, Int.mul_assoc]
    have e1 : W ^ k * (W * h) + W ^ k * l = W ^ k * (38 * d (k + 4)) + W ^ k * d k + W ^ k * cv := by
      rw [← Int.mul_add, ← Int.mul_add, ← Int.mul_add, Int.mul_comm W h, s4, Int.mul_comm 38]
    have e2 := hI.eq
    have e3 : W ^ k * (38 * d (k + 4)) = 38 * (W ^ k * d (k + 4)) := Int.mul_left_comm _ _ _
    omega

theorem val8 (d : Nat → Int) : val W d 8 = val W d 4 + W ^ 4 * val W (fun j => d (j + 4)) 4 := by
  simp only [val, W, Nat.zero_add, Nat.reduceAdd]
  omega

theorem fold_math {d n m : Nat → Int} {cv : Int} (he : val W n 4 + W ^ 4 * cv = val W d 4 + 38 * val W (fun j => d (j + 4)) 4) (hm : val W m 4 % Q = (val W n 4 + W ^ 4 * cv) % Q) : val W m 4 % Q = val W d 8 % Q := by
  rw [hm, he, val8, W4]
  simp only [Q]
  omega

set_option maxHeartbeats 2000000 in
theorem fold_any (d : Nat → Int) (hd : In W 8 d) (w : World) :
    Calls Tryd.prog 35 #[(.agg (row .u64 8 (d)).toArray)] w fun e w' => ∃ m : Nat → Int, e = .returned (.agg (row .u64 4 (m)).toArray) ∧ (In W 4 m ∧ val W m 4 % Q = val W d 8 % Q) ∧ Below w.heap.size w w' := by
  go_enter Tryd.func35, Tryd.ntmps35
  go_wp2
  go_loopw [4, 6] (fun c i w' => ∃ (k : Nat) (n : Nat → Int) (cv : Int), k ≤ 4 ∧ i = .int .i64 k ∧ c = .int .u64 cv ∧ FInv d w k n cv w') (fun _ i _ => 4 - (intOf i).toNat)
  case atStart =>
    exact ⟨0, fun _ => 0, 0, by omega, rfl, rfl, ⟨by omega, by omega, fun _ _ => ⟨Int.le_refl 0, by decide⟩, by simp [val], ((Has.new w _ _ _ _ _ rfl).alloc _ (by simp)).alloc _ (by simp; omega), (has_zero _ _ _ (by simp)).alloc _ (by simp), has_zero _ _ _ (by simp), (((Fr.refl w).alloc _).alloc _).alloc _⟩⟩
  case round =>
    obtain ⟨k, n, cv, hk, rfl, rfl, hI⟩ := hrel
    by_cases hlt : k < 4
    · have c1 := hI.hd.cell (k + 4) (by omega)
      have c2 := hI.hd.cell k (by omega)
      have c3 := hI.hn.cell k hlt
      have f1 := hI.hn.free k hlt
      have g1 : (0 : Int) ≤ (k : Int) := by omega
      have g2 : (k : Int) < 4 := by omega
      have g3 : (0 : Int) ≤ (k : Int) + 4 := by omega
      have g4 : (k : Int) + 4 < 8 := by omega
      have g5 : (k : Int) < 8 := by omega
      have g6 : ((k : Int) + 4).toNat = k + 4 := by omega
      have g7 : IntKind.i64.wrap ((k : Int) + 4) = (k : Int) + 4 := by rw [IntKind.wrap_i64]; omega
      have hc := fun W' => step_any (d (k + 4)) 38 (d k) cv (hd (k + 4) (by omega)).1 (hd (k + 4) (by omega)).2 (by decide) (by decide) (hd k (by omega)).1 (hd k (by omega)).2 hI.c0 (by have := hI.c1; simp only [W]; omega) W'
      have HS := show Hid _ from fun (h l : Int) (hs : Steps (d (k + 4)) 38 (d k) cv h l) => hI.step hd hlt hs
      have HC := show Hid _ from hc
      clear hI hc
      generalize n k = z at *
      generalize d (k + 4) = x at *
      generalize d k = y at *
      go_wp2
      have k1 : ∀ v, (wr.setCell ⟨w.heap.size + 1 + 1, k, none⟩ v).cell? ⟨w.heap.size, k + 4, none⟩ = some (.int .u64 x) := fun v => by rw [World.cell?_setCell_other _ _ _ _ (by intro h'; injection h'; omega)]; exact c1
      have k2 : ∀ v, (wr.setCell ⟨w.heap.size + 1 + 1, k, none⟩ v).cell? ⟨w.heap.size, k, none⟩ = some (.int .u64 y) := fun v => by rw [World.cell?_setCell_other _ _ _ _ (by intro h'; injection h'; omega)]; exact c2
      go_region_held3 (fun w' => w'.cell? ⟨w.heap.size, k + 4, none⟩ = some (.int .u64 x) ∧ w'.cell? ⟨w.heap.size, k, none⟩ = some (.int .u64 y)) (simp [*]) (first | (go_at_call 34; refine (HC.out _).mono ?_; rintro e w' ⟨h, l, rfl, hs, rfl⟩))
      go_wp2
      go_roundw
      case rel => exact ⟨k + 1, _, _, by omega, by go_num, rfl, HS.out h l hs⟩
      case measure => simp [intOf]; omega
    · obtain rfl : k = 4 := by omega
      have hn := hI.hn
      have hz := hI.hr
      go_wp2_with (refine wpList_load_mid rfl 46 _ rfl (w.heap.size + 1 + 1) 0 rfl (row .u64 4 (n)) _ (Has.range (hn)) Tryd.underlying46 rfl (num_info _) ?_)
      refine (wrap_any n hI.inn cv hI.c0 hI.c1 _).mono ?_
      rintro e w1 ⟨m, rfl, s1, l1⟩
      have hz1 := hz.call hI.fr l1 (by omega)
      go_wp2_with (refine wpList_store_mid rfl 46 _ _ rfl (w.heap.size + 1) 0 (row .u64 4 (m)).toArray rfl rfl (num_there (hz1)) (num_info' _) (all_oneCell_toArray (row_one _ _ _)) ?_)
      exact bodyPost_ret (v := (.agg (row .u64 4 (m)).toArray)) (results_row Tryd.results35 rfl (Has.all hz1.there .u64 m).range Tryd.underlying46 rfl (num_info m)) rfl ⟨m, rfl, ⟨s1.1, fold_math hI.eq s1.2⟩, ((hI.fr.call l1).setAll _ (by omega) _).below⟩

end Go.Proofs.YthephehecapmhabDoor
