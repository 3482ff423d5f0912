/- What the document's own digits, prime and whole come to. -/
import Derived.Test.YthephehecapmhabDoorSave
import Derived.Test.YthephehecapmhabDoorStep
import Derived.Test.YthephehecapmhabDoorProd
import Derived.Deep.QuietTactic
import Derived.BigQuiet
import Derived.Deep.Cut
namespace Go.Proofs.YthephehecapmhabDoor
open Go.RowKit

/-- A digit's bound. -/
abbrev D : Int := 65536
def pD : Nat → Int := fun j => if j = 0 then 65517 else if j = 15 then 32767 else 65535
theorem pD_in (j : Nat) : 0 ≤ pD j ∧ pD j < 65536 := by unfold pD; split <;> (try split) <;> omega
theorem val_pD : val D pD 16 = Q := by decide

theorem refPrime_any (k : Nat) (hk : k < 16) (w : World) :
    Calls Tryd.prog 29 #[.int .i64 (k : Int)] w fun e w' => e = .returned (.int .i64 (pD k)) ∧ w' = w := by
  by_cases h0 : k = 0
  · subst h0
    go_enter Tryd.func29, Tryd.ntmps29
    go_wp2
    go_ret
    exact ⟨rfl, rfl⟩
  · by_cases h1 : k = 15
    · subst h1
      go_enter Tryd.func29, Tryd.ntmps29
      go_wp2
      go_ret
      exact ⟨rfl, rfl⟩
    · have e0 : ((k : Int) == 0) = false := by simp; omega
      have e1 : ((k : Int) == 15) = false := by simp; omega
      have hp : pD k = 65535 := by unfold pD; rw [if_neg h0, if_neg h1]
      rw [hp]
      clear hp
      go_enter Tryd.func29, Tryd.ntmps29
      go_wp2
      go_ret
      exact ⟨rfl, rfl⟩

theorem made_zero (w : World) (t : TypeId) (b : Nat) (hb : b = w.heap.size) : Has (w.alloc (.cells #[.int .i64 0, .int .i64 0, .int .i64 0, .int .i64 0, .int .i64 0, .int .i64 0, .int .i64 0, .int .i64 0, .int .i64 0, .int .i64 0, .int .i64 0, .int .i64 0, .int .i64 0, .int .i64 0, .int .i64 0, .int .i64 0, .int .i64 0, .int .i64 0, .int .i64 0, .int .i64 0, .int .i64 0, .int .i64 0, .int .i64 0, .int .i64 0, .int .i64 0, .int .i64 0, .int .i64 0, .int .i64 0, .int .i64 0, .int .i64 0, .int .i64 0, .int .i64 0] t)) b .i64 32 (fun _ => 0) := Has.new w .i64 32 (fun _ => 0) t b hb
theorem made (w : World) : (Instr.makeSlice 40 (.int .i64 32) (.int .i64 32)).run Tryd.prog w = .ok (.slice (some ⟨w.heap.size, 0, none⟩) 32 32) (w.alloc (.cells #[.int .i64 0, .int .i64 0, .int .i64 0, .int .i64 0, .int .i64 0, .int .i64 0, .int .i64 0, .int .i64 0, .int .i64 0, .int .i64 0, .int .i64 0, .int .i64 0, .int .i64 0, .int .i64 0, .int .i64 0, .int .i64 0, .int .i64 0, .int .i64 0, .int .i64 0, .int .i64 0, .int .i64 0, .int .i64 0, .int .i64 0, .int .i64 0, .int .i64 0, .int .i64 0, .int .i64 0, .int .i64 0, .int .i64 0, .int .i64 0, .int .i64 0, .int .i64 0] 3)) := by kernel_rfl

/-- The digits of bytes; noughts behind them. -/
def dig (a : Nat → Int) : Nat → Int := fun j => if j < 16 then a (2 * j) + 256 * a (2 * j + 1) else 0
theorem dig_in (a : Nat → Int) (ha : In 256 32 a) (j : Nat) : 0 ≤ dig a j ∧ dig a j < 65536 := by
  unfold dig
  split
  · have h1 := ha (2 * j) (by omega)
    have h2 := ha (2 * j + 1) (by omega)
    omega
  · omega
theorem val_dig (a : Nat → Int) : ∀ k, k ≤ 16 → val D (dig a) k = val 256 a (2 * k)
  | 0, _ => rfl
  | k + 1, hk => by
    have e : 2 * (k + 1) = 2 * k + 1 + 1 := by omega
    rw [e, val_succ, val_succ, val_succ, val_dig a k (by omega)]
    have e1 : (256 : Int) ^ (2 * k) = D ^ k := by rw [Int.pow_mul, show (256 : Int) ^ 2 = D from by decide]
    have e2 : (256 : Int) ^ (2 * k + 1) = D ^ k * 256 := by rw [Int.pow_succ, e1]
    have e3 : dig a k = a (2 * k) + 256 * a (2 * k + 1) := by unfold dig; rw [if_pos (by omega)]
    rw [e1, e2, e3, Int.mul_add, ← Int.mul_assoc]
    omega
theorem val_dig32 (a : Nat → Int) : val D (dig a) 32 = val 256 a 32 := by
  have h := val_dig a 16 (Nat.le_refl _)
  rw [← h]
  simp [val, dig]

structure YInv (a : Nat → Int) (w : World) (k : Nat) (f : Nat → Int) (w' : World) : Prop where
  done : ∀ j, j < k → f j = dig a j
  rest : ∀ j, k ≤ j → f j = 0
  ha : Has w' w.heap.size .u8 32 a
  ht : Has w' (w.heap.size + 1) .i64 32 f
  fr : Fr w 2 w'
theorem YInv.step {a : Nat → Int} {w : World} {k : Nat} {f : Nat → Int} {w' : World} (h : YInv a w k f w') (hk : k < 16) :
    YInv a w (k + 1) (upd f k (a (2 * k) + 256 * a (2 * k + 1))) ((w'.setCell ⟨w.heap.size + 1, k, none⟩ (.int .i64 (a (2 * k) + 256 * a (2 * k + 1)))).drew) := by
  refine ⟨fun j hj => ?_, fun j hj => ?_, (h.ha.set_other _ _ (by simp)).drew, (h.ht.set k (by omega) _).drew, (h.fr.set _ _ (by simp)).drew⟩
  · by_cases e : j = k
    · subst e; rw [upd_same]; unfold dig; rw [if_pos hk]
    · rw [upd_other _ _ _ _ e]; exact h.done j (by omega)
  · rw [upd_other _ _ _ _ (by omega)]; exact h.rest j (by omega)

set_option maxRecDepth 10000 in
set_option maxHeartbeats 2000000 in
theorem digits_any (a : Nat → Int) (ha : In 256 32 a) (w : World) :
    Calls Tryd.prog 18 #[(.agg (row .u8 32 (a)).toArray)] w fun e w' => ∃ B : Nat, e = .returned (.slice (some ⟨B, 0, none⟩) 32 32) ∧ (w.heap.size ≤ B ∧ B < w'.heap.size ∧ Has w' B .i64 32 (dig a)) ∧ Below w.heap.size w w' := by
  have hmk := made
  go_enter Tryd.func18, Tryd.ntmps18
  go_wp2
  go_loopw [4] (fun i w' => ∃ (k : Nat) (f : Nat → Int), k ≤ 16 ∧ i = .int .i64 k ∧ YInv a w k f w') (fun i _ => 16 - (intOf i).toNat)
  case atStart => exact ⟨0, fun _ => 0, by omega, rfl, ⟨fun j hj => by omega, fun _ _ => rfl, (Has.new w _ _ _ _ _ rfl).alloc _ (by simp), made_zero _ _ _ (by simp), ((Fr.refl w).alloc _).alloc _⟩⟩
  case round =>
    obtain ⟨k, f, hk, rfl, hI⟩ := hrel
    clear hmk
    by_cases hlt : k < 16
    · have HS := show Hid _ from hI.step hlt
      have c1 := hI.ha.cell (2 * k) (by omega)
      have c2 := hI.ha.cell (2 * k + 1) (by omega)
      have c3 := hI.ht.cell k (by omega)
      have f1 := hI.ht.free k (by omega)
      have i1 := ha (2 * k) (by omega)
      have i2 := ha (2 * k + 1) (by omega)
      have g1 : (0 : Int) ≤ (k : Int) := by omega
      have g2 : (k : Int) < 16 := by omega
      have g3 : (2 * (k : Int)).toNat = 2 * k := by omega
      have g4 : (2 * (k : Int) + 1).toNat = 2 * k + 1 := by omega
      clear hI
      generalize a (2 * k + 1) = y at *
      generalize a (2 * k) = x at *
      generalize f k = z at *
      obtain ⟨x0, x1⟩ := i1
      obtain ⟨y0, y1⟩ := i2
      go_wp2
      go_region
      go_wp2
      go_roundw
      case rel => exact ⟨k + 1, _, by omega, by go_num, HS.out⟩
      case measure => simp [intOf]; omega
    · obtain rfl : k = 16 := by omega
      have hd := hI.ht.congr (g := dig a) (fun j hj => by
        by_cases e : j < 16
        · exact hI.done j e
        · rw [hI.rest j (by omega)]; unfold dig; rw [if_neg e])
      go_wp2
      go_ret
      exact ⟨_, rfl, ⟨by omega, by have := hI.fr.size; omega, hd⟩, hI.fr.below⟩
/-- The first digit from above at which two differ tells which number is greater. -/
theorem val_lt (f g : Nat → Int) : ∀ n s, s < n → In D n f → In D n g → (∀ j, s < j → j < n → f j = g j) → f s < g s → val D f n < val D g n
  | 0, _, h, _, _, _, _ => by omega
  | n + 1, s, h, hf, hg, he, hlt => by
    rw [val_succ, val_succ]
    have hp := pow_nonneg D (by decide) n
    by_cases e : s = n
    · subst e
      have b1 := val_in D (by decide) f s (fun j hj => hf j (by omega))
      have b2 := val_in D (by decide) g s (fun j hj => hg j (by omega))
      have : D ^ s * (f s + 1) ≤ D ^ s * g s := Int.mul_le_mul_of_nonneg_left (by omega) (by omega)
      rw [Int.mul_add, Int.mul_one] at this
      omega
    · have ih := val_lt f g n s (by omega) (fun j hj => hf j (by omega)) (fun j hj => hg j (by omega)) (fun j h1 h2 => he j h1 (by omega)) hlt
      rw [he n (by omega) (by omega)]
      omega

structure WInv (f : Nat → Int) (B : Nat) (w : World) (t : Nat) (w' : World) : Prop where
  same : ∀ j, t ≤ j → j < 16 → f j = pD j
  ht : Has w' B .i64 32 f
  below : Below w.heap.size w w'

theorem drewN_below {w w' : World} {n : Nat} (h : Below w.heap.size w w') : Below w.heap.size w (w'.drewN n) := ⟨h.os, h.tape, h.output, h.size, h.block⟩

theorem Has.drewN {w : World} {b : Nat} {k : IntKind} {n : Nat} {f : Nat → Int} (h : Has w b k n f) {q : Nat} : Has (w.drewN q) b k n f := ⟨h.cell, h.free⟩

set_option maxRecDepth 10000 in
set_option maxHeartbeats 2000000 in
theorem whole_any (f : Nat → Int) (B : Nat) (w : World) (hf : In D 16 f) (ht : Has w B .i64 32 f) :
    Calls Tryd.prog 28 #[.slice (some ⟨B, 0, none⟩) 32 32] w fun e w' => e = .returned (.bool (decide (Q ≤ val D f 16))) ∧ Below w.heap.size w w' := by
  go_enter Tryd.func28, Tryd.ntmps28
  go_wp2
  go_loopw [3] (fun i w' => ∃ (t : Nat) (z : Int), t ≤ 16 ∧ z = (t : Int) - 1 ∧ i = .int .i64 z ∧ WInv f B w t w') (fun i _ => (intOf i + 1).toNat)
  case atStart => exact ⟨16, 15, by omega, by decide, rfl, ⟨fun j h1 h2 => by omega, ht, Below.refl _ _⟩⟩
  case round =>
    obtain ⟨t, z, hle, hz, rfl, hI⟩ := hrel
    by_cases hlt : 0 < t
    · obtain ⟨s, rfl⟩ : ∃ s, t = s + 1 := ⟨t - 1, by omega⟩
      obtain rfl : z = (s : Int) := by omega
      have c1 := hI.ht.cell s (by omega)
      have g1 : (0 : Int) ≤ (s : Int) := by omega
      have g2 : (s : Int) < 16 := by omega
      have g3 : (s : Int) < 32 := by omega
      have HI := show Hid _ from hI
      have s16 : s < 16 := by omega
      clear hz hlt hI
      by_cases he : f s = pD s
      · have HE := show Hid _ from he
        have hne : (f s != pD s) = false := by simp [he]
        clear he
        go_wp2
        go_quiet ((go_at_call 29; exact Calls.quiet_of_same (refPrime_any s s16 _)))
        go_wp2
        go_roundw
        case rel => exact ⟨s, (s : Int) - 1, by omega, rfl, rfl, ⟨fun j h1 h2 => by
          by_cases e : j = s
          · rw [e]; exact HE.out
          · exact HI.out.same j (by omega) h2, HI.out.ht.drewN, drewN_below HI.out.below⟩⟩
        case measure => simp [intOf]
      · have hr : decide (pD s < f s) = decide (Q ≤ val D f 16) := by
          rw [← val_pD]
          by_cases hgt : pD s < f s
          · have := val_lt pD f 16 s (by omega) (fun j _ => pD_in j) hf (fun j h1 h2 => (HI.out.same j (by omega) h2).symm) hgt
            rw [decide_eq_true hgt, decide_eq_true (by omega)]
          · have := val_lt f pD 16 s (by omega) hf (fun j _ => pD_in j) (fun j h1 h2 => HI.out.same j (by omega) h2) (by omega)
            rw [decide_eq_false hgt, decide_eq_false (by omega)]
        have HR := show Hid _ from hr
        have hne : (f s != pD s) = true := by rw [bne_iff_ne]; exact he
        clear he hr
        have HQ := show Hid _ from (fun b (hb : decide (pD s < f s) = b) => HR.out.symm.trans hb)
        clear HR
        go_wp2
        go_quiet ((go_at_call 29; exact Calls.quiet_of_same (refPrime_any s s16 _)))
        go_upto_region 5 with fail
        have c2 : (wr.drewN nq).cell? ⟨B, s, none⟩ = some (.int .i64 (f s)) := c1
        have l2 := drewN_below (n := nq) HI.out.below
        clear c1 hne HI
        generalize wr.drewN nq = w2 at *
        go_quiet ((go_at_call 29; exact Calls.quiet_of_same (refPrime_any s s16 _)))
        go_wp2
        go_ret
        exact ⟨by rw [HQ.out _ rfl]; rfl, drewN_below l2⟩
    · obtain rfl : t = 0 := by omega
      obtain rfl : z = -1 := by omega
      have hv : decide (Q ≤ val D f 16) = true := by
        rw [← val_pD, val_congr D (f := f) (g := pD) 16 (fun j hj => hI.same j (by omega) hj)]
        exact decide_eq_true (Int.le_refl _)
      have HV := show Hid _ from hv
      clear hv hz hlt hle
      go_wp2
      go_ret
      exact ⟨by rw [HV.out]; rfl, hI.below⟩
end Go.Proofs.YthephehecapmhabDoor
