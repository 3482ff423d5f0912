/- What the document's own Mul answers. -/
import Derived.Test.YthephehecapmhaaDoorRefCanon
namespace Go.Proofs.YthephehecapmhaaDoor
open Go.RowKit

/-- Behind i rows, and k places of the next one. -/
structure MU (a b : Nat → Int) (i k : Nat) (f : Nat → Int) (B1 B2 B3 : Nat) (w w' : World) : Prop where
  eq : val D f 32 = val D (dig a) i * val D (dig b) 16 + D ^ i * dig a i * val D (dig b) k
  big : ∀ j, j < 32 → 0 ≤ f j ∧ f j ≤ (i : Int) * 4294967296 + (if i ≤ j ∧ j < i + k then 4294967296 else 0)
  h1 : Has w' B1 .i64 32 (dig a)
  h2 : Has w' B2 .i64 32 (dig b)
  h3 : Has w' B3 .i64 32 f
  hr : w'.there (w.heap.size + 1 + 1) 0 32
  fr : Fr w 3 w'
  hi : B3 < w'.heap.size

theorem mul_le {x y : Int} (x0 : 0 ≤ x) (x1 : x < 65536) (y0 : 0 ≤ y) (y1 : y < 65536) : 0 ≤ x * y ∧ x * y ≤ 4294836225 :=
  ⟨Int.mul_nonneg x0 y0, Int.mul_le_mul (show x ≤ 65535 by omega) (show y ≤ 65535 by omega) y0 (by omega)⟩

theorem MU.step {a b : Nat → Int} {i k : Nat} {f : Nat → Int} {B1 B2 B3 : Nat} {w w' : World} (h : MU a b i k f B1 B2 B3 w w') (ha : In 256 32 a) (hb : In 256 32 b) (lo : w.heap.size + 3 ≤ B3) (n1 : B3 ≠ B1) (n2 : B3 ≠ B2) (hi : i < 16) (hk : k < 16) :
    MU a b i (k + 1) (upd f (i + k) (f (i + k) + dig a i * dig b k)) B1 B2 B3 w ((w'.setCell ⟨B3, i + k, none⟩ (.int .i64 (f (i + k) + dig a i * dig b k))).drew) := by
  have da := dig_in a ha i
  have db := dig_in b hb k
  have hp := mul_le da.1 da.2 db.1 db.2
  refine ⟨?_, fun j hj => ?_, (h.h1.set_other _ _ (by simpa using n1)).drew, (h.h2.set_other _ _ (by simpa using n2)).drew, (h.h3.set _ (by omega) _).drew, fun j hj => ?_, (h.fr.set _ _ (by simp; omega)).drew, by have := h.hi; simpa using this⟩
  · rw [val_upd_in D f (i + k) _ 32 (by omega), val_succ D (dig b) k, h.eq]
    have e1 : D ^ i * dig a i * (D ^ k * dig b k) = D ^ (i + k) * (dig a i * dig b k) := by rw [Int.pow_add, Int.mul_assoc, Int.mul_left_comm (dig a i), ← Int.mul_assoc]
    rw [Int.mul_add (D ^ (i + k)), Int.mul_add (D ^ i * dig a i), e1]
    omega
  · have bj := h.big j hj
    by_cases e : j = i + k
    · subst e
      rw [upd_same]
      rw [if_neg (by omega)] at bj
      rw [if_pos (by omega)]
      omega
    · rw [upd_other _ _ _ _ e]
      by_cases c : i ≤ j ∧ j < i + k
      · rw [if_pos c] at bj; rw [if_pos (by omega)]; exact bj
      · rw [if_neg c] at bj; rw [if_neg (by omega)]; exact bj
  · have hne : (⟨B3, i + k, none⟩ : Addr) ≠ ⟨w.heap.size + 1 + 1, 0 + j, none⟩ := by intro h'; injection h'; omega
    show ((w'.setCell _ _).cell? _).isSome = true ∧ (w'.setCell _ _).frozen? _ = false
    rw [World.cell?_setCell_other _ _ _ _ hne, World.frozen?_setCell]; exact h.hr j hj
theorem MU.next {a b : Nat → Int} {i : Nat} {f : Nat → Int} {B1 B2 B3 : Nat} {w w' : World} (h : MU a b i 16 f B1 B2 B3 w w') : MU a b (i + 1) 0 f B1 B2 B3 w w' := by
  refine ⟨?_, fun j hj => ?_, h.h1, h.h2, h.h3, h.hr, h.fr, h.hi⟩
  · rw [h.eq, val_succ D (dig a) i, Int.add_mul, show val D (dig b) 0 = 0 from rfl, Int.mul_zero, Int.add_zero]
  · have bj := h.big j hj
    rw [if_neg (by omega)]
    have e : ((i + 1 : Nat) : Int) * 4294967296 = (i : Int) * 4294967296 + 4294967296 := by omega
    rw [e]
    split at bj <;> omega

set_option maxRecDepth 10000 in
set_option maxHeartbeats 4000000 in
theorem refMul_any (a b : Nat → Int) (ha : In 256 32 a) (hb : In 256 32 b) (w : World) :
    Calls Tryd.prog 26 #[(.agg (row .u8 32 (a)).toArray), (.agg (row .u8 32 (b)).toArray)] w fun e w' => ∃ f : Nat → Int, e = .returned (.agg (row .u8 32 (f)).toArray) ∧ (In 256 32 f ∧ val 256 f 32 = (val 256 a 32 * val 256 b 32) % Q) ∧ Below w.heap.size w w' := by
  have t0 := Two.new a b w
  have a0 := t0.ha
  have hmk := made
  go_enter Tryd.func26, Tryd.ntmps26
  go_wp2_with (refine wpList_load_mid rfl 23 _ rfl (w.heap.size) 0 rfl (row .u8 32 (a)) _ (Has.range (a0)) Tryd.underlying23 rfl (key_info _) ?_)
  refine (digits_any a ha _).mono ?_
  rintro e w1 ⟨B1, rfl, h1, l1⟩
  have t1 := t0.call l1
  have lo1 : w.heap.size + 3 ≤ B1 := by have := h1.1; simp at this; omega
  have b1 := t1.hb
  clear t0 a0 l1
  go_wp2_with (refine wpList_load_mid rfl 23 _ rfl (w.heap.size + 1) 0 rfl (row .u8 32 (b)) _ (Has.range (b1)) Tryd.underlying23 rfl (key_info _) ?_)
  refine (digits_any b hb _).mono ?_
  rintro e w2 ⟨B2, rfl, h2, l2⟩
  have t2 := t1.call l2
  have x1 := h1.2.2.below l2 h1.2.1
  have hi1 : B1 < w2.heap.size := by have := h1.2.1; have := l2.size; omega
  have hi2 := h2.2.1
  have x2 := h2.2.2
  have mu0 : MU a b 0 0 (fun _ => 0) B1 B2 w2.heap.size w (w2.alloc (.cells #[.int .i64 0, .int .i64 0, .int .i64 0, .int .i64 0, .int .i64 0, .int .i64 0, .int .i64 0, .int .i64 0, .int .i64 0, .int .i64 0, .int .i64 0, .int .i64 0, .int .i64 0, .int .i64 0, .int .i64 0, .int .i64 0, .int .i64 0, .int .i64 0, .int .i64 0, .int .i64 0, .int .i64 0, .int .i64 0, .int .i64 0, .int .i64 0, .int .i64 0, .int .i64 0, .int .i64 0, .int .i64 0, .int .i64 0, .int .i64 0, .int .i64 0, .int .i64 0] 3)) := by
    refine ⟨by rw [show val D (dig a) 0 = 0 from rfl, show val D (dig b) 0 = 0 from rfl, Int.zero_mul, Int.mul_zero]; exact val_zero D 32, fun j _ => by simp, x1.alloc _ hi1, x2.alloc _ hi2, made_zero _ _ _ rfl, ?_, t2.fr.alloc _ |>.below |> (fun b => ⟨b, by have := t2.fr.size; simp; omega⟩), by simp⟩
    have := there_below (w' := w2.alloc (.cells #[.int .i64 0, .int .i64 0, .int .i64 0, .int .i64 0, .int .i64 0, .int .i64 0, .int .i64 0, .int .i64 0, .int .i64 0, .int .i64 0, .int .i64 0, .int .i64 0, .int .i64 0, .int .i64 0, .int .i64 0, .int .i64 0, .int .i64 0, .int .i64 0, .int .i64 0, .int .i64 0, .int .i64 0, .int .i64 0, .int .i64 0, .int .i64 0, .int .i64 0, .int .i64 0, .int .i64 0, .int .i64 0, .int .i64 0, .int .i64 0, .int .i64 0, .int .i64 0] 3)) t2.hr ((Below.refl w2.heap.size w2).alloc (Nat.le_refl _) _) (by have := t2.fr.size; omega)
    exact this
  have lo3 : w.heap.size + 3 ≤ w2.heap.size := t2.fr.size
  have n1 : w2.heap.size ≠ B1 := by omega
  have n2 : w2.heap.size ≠ B2 := by omega
  clear t1 t2 b1 h1 h2 l2 x1 x2 hi1 hi2 lo1
  go_wp2
  clear hmk
  generalize w2.heap.size = B3 at *
  generalize w2.alloc (.cells #[.int .i64 0, .int .i64 0, .int .i64 0, .int .i64 0, .int .i64 0, .int .i64 0, .int .i64 0, .int .i64 0, .int .i64 0, .int .i64 0, .int .i64 0, .int .i64 0, .int .i64 0, .int .i64 0, .int .i64 0, .int .i64 0, .int .i64 0, .int .i64 0, .int .i64 0, .int .i64 0, .int .i64 0, .int .i64 0, .int .i64 0, .int .i64 0, .int .i64 0, .int .i64 0, .int .i64 0, .int .i64 0, .int .i64 0, .int .i64 0, .int .i64 0, .int .i64 0] 3) = w3 at *
  go_loopw [8] (fun i w' => ∃ (m : Nat) (f : Nat → Int), m ≤ 16 ∧ i = .int .i64 m ∧ MU a b m 0 f B1 B2 B3 w w') (fun i _ => 16 - (intOf i).toNat)
  case atStart => exact ⟨0, _, by omega, rfl, mu0⟩
  case round =>
    obtain ⟨m, f0, hm, rfl, hO⟩ := hrel
    clear mu0
    by_cases hlt : m < 16
    · obtain ⟨wo, rfl⟩ : ∃ wo : World, wo = wr := ⟨_, rfl⟩
      have g1 : (0 : Int) ≤ (m : Int) := by omega
      have g2 : (m : Int) < 16 := by omega
      go_wp2
      go_loopw [9] (fun i w' => ∃ (k : Nat) (f : Nat → Int), k ≤ 16 ∧ i = .int .i64 k ∧ MU a b m k f B1 B2 B3 w w') (fun i _ => 16 - (intOf i).toNat)
      case atStart => exact ⟨0, f0, by omega, rfl, hO⟩
      case round =>
        obtain ⟨k, f, hk, rfl, hI⟩ := hrel
        clear hO
        by_cases hlt2 : k < 16
        · have HS := show Hid _ from hI.step ha hb lo3 n1 n2 hlt hlt2
          have c1 := hI.h1.cell m (by omega)
          have c2 := hI.h2.cell k (by omega)
          have c3 := hI.h3.cell (m + k) (by omega)
          have f1 := hI.h3.free (m + k) (by omega)
          have ix := dig_in a ha m
          have iy := dig_in b hb k
          have ip := mul_le ix.1 ix.2 iy.1 iy.2
          have iz := hI.big (m + k) (by omega)
          rw [if_neg (by omega)] at iz
          have iz1 : f (m + k) ≤ 68719476736 := by omega
          have iz0 := iz.1
          have g3 : (0 : Int) ≤ (k : Int) := by omega
          have g4 : (k : Int) < 16 := by omega
          have g7 : ((m : Int) + (k : Int)).toNat = m + k := by omega
          clear hI iz ix iy
          generalize dig a m = x at *
          generalize dig b k = y at *
          generalize f (m + k) = z at *
          obtain ⟨p0, p1⟩ := ip
          go_wp2
          go_region
          go_wp2
          go_roundw
          case rel => exact ⟨k + 1, _, by omega, by go_num, HS.out⟩
          case measure => simp [intOf]; omega
        · obtain rfl : k = 16 := by omega
          have hN := hI.next
          clear hI hlt2 hk
          go_wp2
          go_roundw
          case rel => exact ⟨m + 1, _, by omega, by go_num, hN⟩
          case measure => simp [intOf]; omega
    · obtain rfl : m = 16 := by omega
      clear hlt hm
      go_wp2_with fail
      refine (reduce_any f0 B3 _ (fun j hj => by have := hO.big j hj; rw [if_neg (by omega)] at this; omega) hO.hi hO.h3).mono ?_
      rintro e w4 ⟨g, rfl, s3, l3⟩
      have hz := there_below hO.hr l3 (by omega)
      have hE : In 256 32 g ∧ val 256 g 32 = (val 256 a 32 * val 256 b 32) % Q := ⟨s3.1, by
        rw [s3.2, hO.eq, val_dig a 16 (Nat.le_refl _), val_dig b 16 (Nat.le_refl _), show val D (dig b) 0 = 0 from rfl, Int.mul_zero, Int.add_zero]⟩
      have HE := show Hid _ from hE
      have hL := below_setAll (hO.fr.below.trans (l3.mono (by omega))) (w.heap.size + 1 + 1) (by omega) 0 (row .u8 32 g)
      clear hE s3 hO l3
      go_wp2_with (refine wpList_store_mid rfl 23 _ _ rfl (w.heap.size + 1 + 1) 0 (row .u8 32 g).toArray rfl rfl (key_there' hz) (key_info' _) (all_oneCell_toArray (row_one _ _ _)) ?_)
      exact bodyPost_ret (v := (.agg (row .u8 32 (g)).toArray)) (results_row Tryd.results26 rfl (Has.all hz .u8 g).range Tryd.underlying23 rfl (key_info g)) rfl ⟨g, rfl, HE.out, hL⟩
end Go.Proofs.YthephehecapmhaaDoor
