/- What the document's own Mul answers. -/
import Derived.Test.YtnphoennagmiaaaDoorRc
namespace Go.Proofs.YtnphoennagmiaaaDoor
open Go.RowKit

theorem made11_zero (w : World) (t : TypeId) (b : Nat) (hb : b = w.heap.size) : Has (w.alloc (.cells #[.int .i64 0, .int .i64 0, .int .i64 0, .int .i64 0, .int .i64 0, .int .i64 0, .int .i64 0, .int .i64 0, .int .i64 0, .int .i64 0, .int .i64 0] t)) b .i64 11 (fun _ => 0) := Has.new w .i64 11 (fun _ => 0) t b hb
theorem made11 (w : World) : (Instr.makeSlice 42 (.int .i64 11) (.int .i64 11)).run Tryd.prog w = .ok (.slice (some ⟨w.heap.size, 0, none⟩) 11 11) (w.alloc (.cells #[.int .i64 0, .int .i64 0, .int .i64 0, .int .i64 0, .int .i64 0, .int .i64 0, .int .i64 0, .int .i64 0, .int .i64 0, .int .i64 0, .int .i64 0] 3)) := by kernel_rfl

/-- Behind i rows, and k places of the next one. -/
structure MU (a b : Nat → Int) (i k : Nat) (f : Nat → Int) (B1 B2 B3 : Nat) (w w' : World) : Prop where
  eq : val D f 11 = val D (dg 26 (nb a)) i * val D (dg 26 (nb b)) 6 + D ^ i * dg 26 (nb a) i * val D (dg 26 (nb b)) k
  big : ∀ j, j < 11 → 0 ≤ f j ∧ f j ≤ (i : Int) * 4503599627370496 + (if i ≤ j ∧ j < i + k then 4503599627370496 else 0)
  h1 : Has w' B1 .i64 6 (dg 26 (nb a))
  h2 : Has w' B2 .i64 6 (dg 26 (nb b))
  h3 : Has w' B3 .i64 11 f
  hr : w'.there (w.heap.size + 1 + 1) 0 17
  fr : Fr w 3 w'
  hi : B3 < w'.heap.size

theorem mul_le {x y : Int} (x0 : 0 ≤ x) (x1 : x < 67108864) (y0 : 0 ≤ y) (y1 : y < 67108864) : 0 ≤ x * y ∧ x * y ≤ 4503599493152769 :=
  ⟨Int.mul_nonneg x0 y0, Int.mul_le_mul (show x ≤ 67108863 by omega) (show y ≤ 67108863 by omega) y0 (by omega)⟩

theorem MU.step {a b : Nat → Int} {i k : Nat} {f : Nat → Int} {B1 B2 B3 : Nat} {w w' : World} (h : MU a b i k f B1 B2 B3 w w') (lo : w.heap.size + 3 ≤ B3) (n1 : B3 ≠ B1) (n2 : B3 ≠ B2) (hi : i < 6) (hk : k < 6) :
    MU a b i (k + 1) (upd f (i + k) (f (i + k) + dg 26 (nb a) i * dg 26 (nb b) k)) B1 B2 B3 w ((w'.setCell ⟨B3, i + k, none⟩ (.int .i64 (f (i + k) + dg 26 (nb a) i * dg 26 (nb b) k))).drew) := by
  have da := dig_bound (nb a) i
  have db := dig_bound (nb b) k
  have hp := mul_le da.1 da.2 db.1 db.2
  refine ⟨?_, fun j hj => ?_, (h.h1.set_other _ _ (by simpa using n1)).drew, (h.h2.set_other _ _ (by simpa using n2)).drew, (h.h3.set _ (by omega) _).drew, fun j hj => ?_, (h.fr.set _ _ (by simp; omega)).drew, by have := h.hi; simpa using this⟩
  · rw [val_upd_in D f (i + k) _ 11 (by omega), val_succ D (dg 26 (nb b)) k, h.eq]
    have e1 : D ^ i * dg 26 (nb a) i * (D ^ k * dg 26 (nb b) k) = D ^ (i + k) * (dg 26 (nb a) i * dg 26 (nb b) k) := by rw [Int.pow_add, Int.mul_assoc, Int.mul_left_comm (dg 26 (nb a) i), ← Int.mul_assoc]
    rw [Int.mul_add (D ^ (i + k)), Int.mul_add (D ^ i * dg 26 (nb a) i), e1]
    omega
  · have bj := h.big j hj
    by_cases e : j = i + k
    · subst e
      rw [upd_same]
      rw [if_neg (by omega)] at bj
      rw [if_pos (by omega)]
      omega
    · rw [upd_other _ _ _ _ e]
      by_cases c : i ≤ j ∧ j < i + k
      · rw [if_pos c] at bj; rw [if_pos (by omega)]; exact bj
      · rw [if_neg c] at bj; rw [if_neg (by omega)]; exact bj
  · have hne : (⟨B3, i + k, none⟩ : Addr) ≠ ⟨w.heap.size + 1 + 1, 0 + j, none⟩ := by intro h'; injection h'; omega
    show ((w'.setCell _ _).cell? _).isSome = true ∧ (w'.setCell _ _).frozen? _ = false
    rw [World.cell?_setCell_other _ _ _ _ hne, World.frozen?_setCell]; exact h.hr j hj
theorem MU.next {a b : Nat → Int} {i : Nat} {f : Nat → Int} {B1 B2 B3 : Nat} {w w' : World} (h : MU a b i 6 f B1 B2 B3 w w') : MU a b (i + 1) 0 f B1 B2 B3 w w' := by
  refine ⟨?_, fun j hj => ?_, h.h1, h.h2, h.h3, h.hr, h.fr, h.hi⟩
  · rw [h.eq, val_succ D (dg 26 (nb a)) i, Int.add_mul, show val D (dg 26 (nb b)) 0 = 0 from rfl, Int.mul_zero, Int.add_zero]
  · have bj := h.big j hj
    rw [if_neg (by omega)]
    have e : ((i + 1 : Nat) : Int) * 4503599627370496 = (i : Int) * 4503599627370496 + 4503599627370496 := by omega
    rw [e]
    split at bj <;> omega

set_option maxRecDepth 10000 in
set_option maxHeartbeats 4000000 in
theorem refMul_any (a b : Nat → Int) (ha : In 256 17 a) (hb : In 256 17 b) (w : World) :
    Calls Tryd.prog 14 #[(.agg (row .u8 17 (a)).toArray), (.agg (row .u8 17 (b)).toArray)] w fun e w' => ∃ f : Nat → Int, e = .returned (.agg (row .u8 17 (f)).toArray) ∧ (In 256 17 f ∧ val 256 f 17 = (val 256 a 17 * val 256 b 17) % Q) ∧ Below w.heap.size w w' := by
  have t0 := Two.new a b w
  have a0 := t0.ha
  have hmk := made11
  go_enter Tryd.func14, Tryd.ntmps14
  go_wp2_with (refine wpList_load_mid rfl 33 _ rfl (w.heap.size) 0 rfl (row .u8 17 (a)) _ (Has.range (a0)) Tryd.underlying33 rfl (big_info _) ?_)
  refine (digits_any a ha _).mono ?_
  rintro e w1 ⟨B1, rfl, h1, l1⟩
  have t1 := t0.call l1
  have lo1 : w.heap.size + 3 ≤ B1 := by have := h1.1; simp at this; omega
  have b1 := t1.hb
  clear t0 a0 l1
  go_wp2_with (refine wpList_load_mid rfl 33 _ rfl (w.heap.size + 1) 0 rfl (row .u8 17 (b)) _ (Has.range (b1)) Tryd.underlying33 rfl (big_info _) ?_)
  refine (digits_any b hb _).mono ?_
  rintro e w2 ⟨B2, rfl, h2, l2⟩
  have t2 := t1.call l2
  have x1 := h1.2.2.below l2 h1.2.1
  have hi1 : B1 < w2.heap.size := by have := h1.2.1; have := l2.size; omega
  have hi2 := h2.2.1
  have x2 := h2.2.2
  have mu0 : MU a b 0 0 (fun _ => 0) B1 B2 w2.heap.size w (w2.alloc (.cells #[.int .i64 0, .int .i64 0, .int .i64 0, .int .i64 0, .int .i64 0, .int .i64 0, .int .i64 0, .int .i64 0, .int .i64 0, .int .i64 0, .int .i64 0] 3)) := by
    refine ⟨by rw [show val D (dg 26 (nb a)) 0 = 0 from rfl, show val D (dg 26 (nb b)) 0 = 0 from rfl, Int.zero_mul, Int.mul_zero]; exact val_zero D 11, fun j _ => by simp, x1.alloc _ hi1, x2.alloc _ hi2, made11_zero _ _ _ rfl, ?_, t2.fr.alloc _ |>.below |> (fun b => ⟨b, by have := t2.fr.size; simp; omega⟩), by simp⟩
    have := there_below (w' := w2.alloc (.cells #[.int .i64 0, .int .i64 0, .int .i64 0, .int .i64 0, .int .i64 0, .int .i64 0, .int .i64 0, .int .i64 0, .int .i64 0, .int .i64 0, .int .i64 0] 3)) t2.hr ((Below.refl w2.heap.size w2).alloc (Nat.le_refl _) _) (by have := t2.fr.size; omega)
    exact this
  have lo3 : w.heap.size + 3 ≤ w2.heap.size := t2.fr.size
  have n1 : w2.heap.size ≠ B1 := by omega
  have n2 : w2.heap.size ≠ B2 := by omega
  clear t1 t2 b1 h1 h2 l2 x1 x2 hi1 hi2 lo1
  go_wp2
  clear hmk
  generalize w2.heap.size = B3 at *
  generalize w2.alloc (.cells #[.int .i64 0, .int .i64 0, .int .i64 0, .int .i64 0, .int .i64 0, .int .i64 0, .int .i64 0, .int .i64 0, .int .i64 0, .int .i64 0, .int .i64 0] 3) = w3 at *
  go_loopw [8] (fun i w' => ∃ (m : Nat) (f : Nat → Int), m ≤ 6 ∧ i = .int .i64 m ∧ MU a b m 0 f B1 B2 B3 w w') (fun i _ => 6 - (intOf i).toNat)
  case atStart => exact ⟨0, _, by omega, rfl, mu0⟩
  case round =>
    obtain ⟨m, f0, hm, rfl, hO⟩ := hrel
    clear mu0
    by_cases hlt : m < 6
    · obtain ⟨wo, rfl⟩ : ∃ wo : World, wo = wr := ⟨_, rfl⟩
      have g1 : (0 : Int) ≤ (m : Int) := by omega
      have g2 : (m : Int) < 6 := by omega
      go_wp2
      go_loopw [9] (fun i w' => ∃ (k : Nat) (f : Nat → Int), k ≤ 6 ∧ i = .int .i64 k ∧ MU a b m k f B1 B2 B3 w w') (fun i _ => 6 - (intOf i).toNat)
      case atStart => exact ⟨0, f0, by omega, rfl, hO⟩
      case round =>
        obtain ⟨k, f, hk, rfl, hI⟩ := hrel
        clear hO
        by_cases hlt2 : k < 6
        · have HS := show Hid _ from hI.step lo3 n1 n2 hlt hlt2
          have c1 := hI.h1.cell m (by omega)
          have c2 := hI.h2.cell k (by omega)
          have c3 := hI.h3.cell (m + k) (by omega)
          have f1 := hI.h3.free (m + k) (by omega)
          have ix := dig_bound (nb a) m
          have iy := dig_bound (nb b) k
          have ip := mul_le ix.1 ix.2 iy.1 iy.2
          have iz := hI.big (m + k) (by omega)
          rw [if_neg (by omega)] at iz
          have iz1 : f (m + k) ≤ 27021597764222976 := by omega
          have iz0 := iz.1
          have g3 : (0 : Int) ≤ (k : Int) := by omega
          have g4 : (k : Int) < 6 := by omega
          have g7 : ((m : Int) + (k : Int)).toNat = m + k := by omega
          clear hI iz ix iy
          generalize dg 26 (nb a) m = x at *
          generalize dg 26 (nb b) k = y at *
          generalize f (m + k) = z at *
          obtain ⟨p0, p1⟩ := ip
          go_wp2
          go_region
          go_wp2
          go_roundw
          case rel => exact ⟨k + 1, _, by omega, by go_num, HS.out⟩
          case measure => simp [intOf]; omega
        · obtain rfl : k = 6 := by omega
          have hN := hI.next
          clear hI hlt2 hk
          go_wp2
          go_roundw
          case rel => exact ⟨m + 1, _, by omega, by go_num, hN⟩
          case measure => simp [intOf]; omega
    · obtain rfl : m = 6 := by omega
      clear hlt hm
      go_wp2_with fail
      refine (reduce_any 11 B3 f0 _ (Or.inr rfl) (fun j hj => by have := hO.big j hj; rw [if_neg (by omega)] at this; omega) hO.hi hO.h3).mono ?_
      rintro e w4 ⟨g, rfl, s3, l3⟩
      have hz := there_below hO.hr l3 (by have := hO.fr.size; omega)
      have hE : In 256 17 g ∧ val 256 g 17 = (val 256 a 17 * val 256 b 17) % Q := ⟨s3.1, by
        rw [s3.2, hO.eq, dig_val a ha, dig_val b hb, show val D (dg 26 (nb b)) 0 = 0 from rfl, Int.mul_zero, Int.add_zero]⟩
      have HE := show Hid _ from hE
      have hL := ((hO.fr.call l3).setAll (w.heap.size + 1 + 1) (by omega) (row .u8 17 g)).below
      clear hE s3 hO l3
      go_wp2_with (refine wpList_store_mid rfl 33 _ _ rfl (w.heap.size + 1 + 1) 0 (row .u8 17 g).toArray rfl rfl (big_there' hz) (big_info' _) (all_oneCell_toArray (row_one _ _ _)) ?_)
      exact bodyPost_ret (v := (.agg (row .u8 17 (g)).toArray)) (results_row Tryd.results14 rfl (Has.all hz .u8 g).range Tryd.underlying33 rfl (big_info g)) rfl ⟨g, rfl, HE.out, hL⟩
end Go.Proofs.YtnphoennagmiaaaDoor
