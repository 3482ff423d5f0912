/- What product makes of two folded clamp numbers. -/
import Derived.Test.YtnphoennagmiaaaDoorCo
namespace Go.Proofs.YtnphoennagmiaaaDoor
open Go.RowKit

theorem val_succ (M : Int) (f : Nat → Int) (n : Nat) : val M f (n + 1) = val M f n + M ^ n * f n := rfl
theorem val_upd_in (M : Int) (f : Nat → Int) (i : Nat) (x : Int) : ∀ n, i < n → val M (upd f i x) n = val M f n + (M ^ i * x - M ^ i * f i)
  | 0, h => by omega
  | n + 1, h => by
    simp only [val]
    by_cases e : i = n
    · subst e; rw [val_upd _ _ _ _ _ (Nat.le_refl i), upd_same]; omega
    · rw [val_upd_in M f i x n (by omega), upd_other _ _ _ _ (by omega)]; omega

/-- Behind k rounds of product's outer loop, and j of its inner one. -/
structure RInv (a b : Nat → Int) (w : World) (k j : Nat) (d : Nat → Int) (cv : Int) (w' : World) : Prop where
  c0 : 0 ≤ cv
  c1 : cv < W
  inn : In W 6 d
  zero : ∀ t, 3 + k ≤ t → d t = 0
  eq : val W d (3 + k) + W ^ (k + j) * cv = val W a k * val W b 3 + W ^ k * a k * val W b j
  ha : Has w' w.heap.size .u64 3 a
  hb : Has w' (w.heap.size + 1) .u64 3 b
  hr : Has w' (w.heap.size + 1 + 1) .u64 3 (fun _ => 0)
  hd : Has w' (w.heap.size + 1 + 1 + 1) .u64 6 d
  fr : Fr w 4 w'

theorem RInv.step {a b : Nat → Int} {w : World} {k j : Nat} {d : Nat → Int} {cv h l : Int} {w' : World} (hI : RInv a b w k j d cv w') (hk : k < 3) (hj : j < 3) (hs : Steps (a k) (b j) (d (k + j)) cv h l) :
    RInv a b w k (j + 1) (upd d (k + j) l) h ((w'.setCell ⟨w.heap.size + 1 + 1 + 1, k + j, none⟩ (.int .u64 l)).drew) := by
  obtain ⟨s0, s1, s2, s3, s4⟩ := hs
  refine ⟨s0, s1, hI.inn.upd _ l s2 s3, fun t ht => ?_, ?_, (hI.ha.set_other _ _ (by simp; omega)).drew, (hI.hb.set_other _ _ (by simp; omega)).drew, (hI.hr.set_other _ _ (by simp)).drew, (hI.hd.set _ (by omega) _).drew, (hI.fr.set _ _ (by simp; omega)).drew⟩
  · rw [upd_other _ _ _ _ (by omega)]; exact hI.zero t ht
  · rw [val_upd_in _ _ _ _ _ (by omega), val_succ W b j]
    have e0 : W ^ (k + (j + 1)) * h = W ^ (k + j) * (h * W) := by rw [← Nat.add_assoc, Int.pow_succ, Int.mul_assoc, Int.mul_comm W h]
    have e1 : W ^ (k + j) * (h * W) + W ^ (k + j) * l = W ^ (k + j) * (a k * b j) + W ^ (k + j) * d (k + j) + W ^ (k + j) * cv := by
      rw [← Int.mul_add, ← Int.mul_add, ← Int.mul_add, s4]
    have e2 := hI.eq
    have e3 : W ^ k * a k * (W ^ j * b j) = W ^ (k + j) * (a k * b j) := by rw [Int.pow_add, Int.mul_assoc, Int.mul_left_comm (a k), ← Int.mul_assoc]
    rw [Int.mul_add (W ^ k * a k), e3, e0]
    omega

theorem RInv.next {a b : Nat → Int} {w : World} {k : Nat} {d : Nat → Int} {cv : Int} {w' : World} (hI : RInv a b w k 3 d cv w') (hk : k < 3) :
    RInv a b w (k + 1) 0 (upd d (k + 3) cv) 0 (w'.setCell ⟨w.heap.size + 1 + 1 + 1, k + 3, none⟩ (.int .u64 cv)) := by
  refine ⟨Int.le_refl 0, by decide, hI.inn.upd _ cv hI.c0 hI.c1, fun t ht => ?_, ?_, hI.ha.set_other _ _ (by simp; omega), hI.hb.set_other _ _ (by simp; omega), hI.hr.set_other _ _ (by simp), hI.hd.set _ (by omega) _, hI.fr.set _ _ (by simp; omega)⟩
  · rw [upd_other _ _ _ _ (by omega)]; exact hI.zero t (by omega)
  · have e : 3 + (k + 1) = (k + 3) + 1 := by omega
    have e2 := hI.eq
    rw [Nat.add_comm 3 k] at e2
    rw [e, val_succ W _ (k + 3), val_upd _ _ _ _ _ (Nat.le_refl _), upd_same, val_succ W a k, Int.add_mul, e2, Int.mul_zero, show val W b 0 = 0 from rfl, Int.mul_zero]

theorem cwid_zero (w : World) (t : TypeId) (b : Nat) (hb : b = w.heap.size) : Has (w.alloc (.cells #[.int .u64 0, .int .u64 0, .int .u64 0, .int .u64 0, .int .u64 0, .int .u64 0] t)) b .u64 6 (fun _ => 0) := Has.new w .u64 6 (fun _ => 0) t b hb
theorem val_zero (M : Int) : ∀ n, val M (fun _ => 0) n = 0
  | 0 => rfl
  | n + 1 => by simp [val, val_zero M n]

set_option maxHeartbeats 4000000 in
theorem cproduct_any (a b : Nat → Int) (ha : In W 3 a) (hb : In W 3 b) (fa : val W a 3 ≤ FB) (fb : val W b 3 ≤ FB) (w : World) :
    Calls Tryd.prog 27 #[(.agg (row .u64 3 (a)).toArray), (.agg (row .u64 3 (b)).toArray)] w fun e w' => ∃ m : Nat → Int, e = .returned (.agg (row .u64 3 (m)).toArray) ∧ (Folded m ∧ val W m 3 % Q = (val W a 3 * val W b 3) % Q) ∧ Below w.heap.size w w' := by
  go_enter Tryd.func27, Tryd.ntmps27
  go_wp2
  go_loopw [9] (fun i w' => ∃ (k : Nat) (d : Nat → Int), k ≤ 3 ∧ i = .int .i64 k ∧ RInv a b w k 0 d 0 w') (fun i _ => 3 - (intOf i).toNat)
  case atStart =>
    exact ⟨0, fun _ => 0, by omega, rfl, ⟨by omega, by decide, fun _ _ => ⟨Int.le_refl 0, by decide⟩, fun _ _ => rfl, by simp [val], (((Has.new w _ _ _ _ _ rfl).alloc _ (by simp)).alloc _ (by simp; omega)).alloc _ (by simp; omega), ((Has.new _ _ _ _ _ _ (by simp)).alloc _ (by simp)).alloc _ (by simp), (cnum_zero _ _ _ (by simp)).alloc _ (by simp), cwid_zero _ _ _ (by simp), ((((Fr.refl w).alloc _).alloc _).alloc _).alloc _⟩⟩
  case round =>
    obtain ⟨k, d0, hk, rfl, hO⟩ := hrel
    by_cases hlt : k < 3
    · obtain ⟨wo, rfl⟩ : ∃ wo : World, wo = wr := ⟨_, rfl⟩
      have g1 : (0 : Int) ≤ (k : Int) := by omega
      have g2 : (k : Int) < 3 := by omega
      go_wp2
      go_loopw [7, 12] (fun c i w' => ∃ (j : Nat) (d : Nat → Int) (cv : Int), j ≤ 3 ∧ i = .int .i64 j ∧ c = .int .u64 cv ∧ RInv a b w k j d cv w') (fun _ i _ => 3 - (intOf i).toNat)
      case atStart => exact ⟨0, d0, 0, by omega, rfl, rfl, hO⟩
      case round =>
        obtain ⟨j, d, cv, hj, rfl, rfl, hI⟩ := hrel
        clear hO
        by_cases hlt2 : j < 3
        · have c1 := hI.ha.cell k hlt
          have c2 := hI.hb.cell j hlt2
          have c3 := hI.hd.cell (k + j) (by omega)
          have f1 := hI.hd.free (k + j) (by omega)
          have g3 : (0 : Int) ≤ (j : Int) := by omega
          have g4 : (j : Int) < 3 := by omega
          have g5 : (0 : Int) ≤ (k : Int) + (j : Int) := by omega
          have g6 : (k : Int) + (j : Int) < 6 := by omega
          have g7 : ((k : Int) + (j : Int)).toNat = k + j := by omega
          have g8 : IntKind.i64.wrap ((k : Int) + (j : Int)) = (k : Int) + (j : Int) := by rw [IntKind.wrap_i64]; omega
          have HS := show Hid _ from fun (h l : Int) (hs : Steps (a k) (b j) (d (k + j)) cv h l) => hI.step hlt hlt2 hs
          have HC := show Hid _ from fun W' => step_any (a k) (b j) (d (k + j)) cv (ha k hlt).1 (ha k hlt).2 (hb j hlt2).1 (hb j hlt2).2 (hI.inn (k + j) (by omega)).1 (hI.inn (k + j) (by omega)).2 hI.c0 hI.c1 W'
          clear hI
          generalize a k = x at *
          generalize b j = y at *
          generalize d (k + j) = z at *
          go_wp2
          go_region_with (go_at_call 35; refine (HC.out _).mono ?_; rintro e w' ⟨h, l, rfl, hs, rfl⟩)
          all_goals
            go_wp2
            go_roundw
            case rel => first | exact ⟨j + 1, _, _, by omega, by go_num, rfl, HS.out h l hs⟩ | ((repeat apply Exists.intro); refine ⟨⟨j + 1, _, _, by omega, ?_, ?_, HS.out h l hs⟩, rfl⟩ <;> first | rfl | go_num)
            case measure => simp [intOf]; omega
        · obtain rfl : j = 3 := by omega
          have hS := hI.next hlt
          have c3 := hI.hd.cell (k + 3) (by omega)
          have f1 := hI.hd.free (k + 3) (by omega)
          have g6 : ((k : Int) + 3).toNat = k + 3 := by omega
          clear hI
          generalize d (k + 3) = z at *
          go_wp2
          go_roundw
          case rel => exact ⟨k + 1, _, by omega, by go_num, hS⟩
          case measure => simp [intOf]; omega
    · obtain rfl : k = 3 := by omega
      have hd := hO.hd
      have hz := hO.hr
      have he : val W d0 6 = val W a 3 * val W b 3 := by
        have e := hO.eq
        rw [Int.mul_zero, show val W b 0 = 0 from rfl, Int.mul_zero, Int.add_zero, Int.add_zero] at e
        exact e
      go_wp2_with (refine wpList_load_mid rfl 53 _ rfl (w.heap.size + 1 + 1 + 1) 0 rfl (row .u64 6 (d0)) _ (Has.range (hd)) Tryd.underlying53 rfl (cwid_info _) ?_)
      refine (lower_any d0 hO.inn (by rw [he]; exact mul_FB fa (val_in W (by decide) b 3 hb).1 fb) _).mono ?_
      rintro e w1 ⟨m, rfl, s1, l1⟩
      have hz1 := hz.call hO.fr l1 (by omega)
      have hm : val W m 3 % Q = (val W a 3 * val W b 3) % Q := by rw [s1.2, he]
      have HM := show Hid _ from hm
      clear he hm
      go_wp2_with (refine wpList_store_mid rfl 49 _ _ rfl (w.heap.size + 1 + 1) 0 (row .u64 3 (m)).toArray rfl rfl (cnum_there (hz1)) (cnum_info' _) (all_oneCell_toArray (row_one _ _ _)) ?_)
      exact bodyPost_ret (v := (.agg (row .u64 3 (m)).toArray)) (results_row Tryd.results27 rfl (Has.all hz1.there .u64 m).range Tryd.underlying49 rfl (cnum_info m)) rfl ⟨m, rfl, ⟨s1.1, HM.out⟩, ((hO.fr.call l1).setAll _ (by omega) _).below⟩
end Go.Proofs.YtnphoennagmiaaaDoor
